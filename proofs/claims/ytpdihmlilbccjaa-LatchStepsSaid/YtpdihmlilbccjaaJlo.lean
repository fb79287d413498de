/- The document's own table: Take, Drop. -/
import Derived.Test.YtpdihmlilbccjaaJln
set_option linter.unusedVariables false
set_option linter.unusedSimpArgs false
namespace Go.Proofs.Ytpdihmlilbccjaa
open Go.RowKit

set_option maxRecDepth 100000 in
theorem rcopy_m {w : World} {xs : List Int} {v : Value} (h : LieN w v xs) (hn : xs.length ≤ 1000000) :
    Calls Try.prog 14 #[v] w (CopyN w xs) := by
  obtain ⟨A, c, rfl, hc, hM, hA⟩ := id h
  have HX : LieN (w.alloc (.cells #[] 3)) (.slice A xs.length c) xs := ⟨A, c, rfl, hc, hM, fun k hk => by
    obtain ⟨b, off, e, h0⟩ := hA k hk
    refine ⟨b, off, e, ?_⟩
    have hlt : b < w.heap.size := (World.block_lt_of_cell? w _ h0)
    exact (World.cell?_of_block (Below.heap_alloc _ _ _ hlt)).trans h0⟩
  have HX := Lib.hid HX
  have HN := Lib.hid hn
  have HO := Lib.hid (OwnN.lit w w.heap.size (Nat.le_refl _))
  clear h hA
  go_enter Try.func14, Try.ntmps14
  go_wp2_with (first
    | (at_builtin; go_loud (refine wpList_cp rfl _ _ rfl w.heap.size w.heap.size 0 rfl HO.out rfl HX.out HN.out (by simp) ?_; go_loud (intro v' w' ho hg))))
  go_ret
  exact ⟨_, rfl, ho, ((Below.refl _ w).alloc (Nat.le_refl _) _).grown hg (by simp) (fun k hk => by have e : some w.heap.size = some k := hk; injection e with e; omega)⟩
theorem OwnN.set {w : World} {base g n c : Nat} {hs : List Int} (h : OwnN w base (.slice (some ⟨g, 0, none⟩) n c) hs) (hn : hs.length = n) (k : Nat) (x : Int) : OwnN (w.setCell ⟨g, k, none⟩ (.int .i64 x)) base (.slice (some ⟨g, 0, none⟩) n c) (hs.set k x) := by
  subst hn
  have h1 := (World.ownsRow.stored h k (.int .i64 x)).1
  unfold OwnN
  rw [List.length_set, show (hs.set k x).map vI = (hs.map vI).set k (.int .i64 x) from by rw [List.map_set]; rfl]
  exact h1
theorem own_eq {g n c b : Nat} (h : (Value.slice (some ⟨g, 0, none⟩) n c).ownBlock = some b) : g = b := by simpa [Value.ownBlock] using h
theorem below_cell {w0 w : World} {B : Nat} (h : Below B w0 w) {p : Addr} (hp : B ≤ p.block) (u : Value) : Below B w0 (w.setCell p u) :=
  h.trans ⟨rfl, rfl, rfl, by simp, fun b hb => Below.heap_setCell w p u b (by omega)⟩
/-- both boxes, new -/
structure Boxes (w V : World) (y : Nat) (v : Value) : Prop where
  hy : y = w.heap.size
  r0 : V.heap[y]? = some (.cells #[v] 28 (0, 0))
  r1 : V.heap[y + 1]? = some (.cells #[.slice none 0 0] 28 (0, 0))
  size : V.heap.size = y + 2
  bel : Below w.heap.size w V
theorem boxes_new (w : World) (v : Value) : Boxes w ((w.alloc (.cells #[v] 28)).alloc (.cells #[.slice none 0 0] 28)) w.heap.size v := by
  have hb := (Below.refl (w.heap.size + 1) (w.alloc (.cells #[v] 28))).alloc (by simp) (.cells #[.slice none 0 0] 28)
  refine ⟨rfl, (hb.block _ (by omega)).trans (heap_alloc_new _ _), ?_, by simp, ((Below.refl _ _).alloc (Nat.le_refl _) _).trans (hb.mono (by omega))⟩
  have := heap_alloc_new (w.alloc (.cells #[v] 28)) (.cells #[.slice none 0 0] 28)
  rw [World.size_alloc] at this
  exact this
def RStepQ (w : World) (base : Nat) (v : Value) (R : List Int × Bool) (e : Ending) (w' : World) : Prop :=
  ∃ v', e = .returned (.tuple #[.agg #[v'], .bool R.2]) ∧ OwnN w' base v' R.1 ∧ Below w.heap.size w w' ∧ ∀ b, v'.ownBlock = some b → v.ownBlock = some b ∨ w.heap.size ≤ b
set_option maxRecDepth 100000 in
set_option maxHeartbeats 4000000 in
theorem rtake_any {w : World} {base : Nat} {v : Value} {hs : List Int} (h : OwnN w base v hs) (hG : Good hs) (hb : base ≤ w.heap.size) (l t : Int) (ht : In64 t) :
    Calls Try.prog 11 #[.agg #[v], .int .i64 l, .int .i64 t] w (RStepQ w base v (takeM hs l t)) := by
  obtain ⟨A, c, rfl⟩ := h.form
  obtain ⟨n, hn⟩ : ∃ n, n = hs.length := ⟨_, rfl⟩
  have h8 : n ≤ 8 := by rw [hn]; exact hG.len
  have hnc : n ≤ c ∧ c ≤ 9223372036854775807 := by
    obtain ⟨A', c', e', h1, h2⟩ := h.lie.form
    cases e'
    omega
  obtain ⟨V, hV⟩ : ∃ V : World, V = (w.alloc (.cells #[.slice A hs.length c] 28)).alloc (.cells #[.slice none 0 0] 28) := ⟨_, rfl⟩
  have hbx := boxes_new w (.slice A hs.length c)
  rw [← hV] at hbx
  obtain ⟨y, hy⟩ : ∃ y, y = w.heap.size := ⟨_, rfl⟩
  rw [← hy] at hbx
  rw [← hn] at hbx hV ⊢
  have HBX := Lib.hid hbx
  have HLL := Lib.hid (show ∀ wx : World, Below w.heap.size w wx → LieN wx (.slice A n c) hs from fun wx hb2 => by rw [hn]; exact h.lie.below hb2)
  have HOO := Lib.hid (show ∀ wx : World, Below w.heap.size w wx → OwnN wx base (.slice A n c) hs from fun wx hb2 => by rw [hn]; exact h.below hb2)
  have HBASE := Lib.hid hb
  have HN := Lib.hid hn
  have HG := Lib.hid hG
  have HT := Lib.hid ht
  have HVV := Lib.hid hV
  have HYY := Lib.hid hy
  have d0 := cell_of_row V y 0 _ _ _ hbx.r0
  have d1 := cell_of_row V (y + 1) 0 _ _ _ hbx.r1
  simp at d0 d1
  have f1 := fun j => frozen_of_row V (y + 1) j _ _ hbx.r1
  have hy0 : y < V.heap.size := heap_lt hbx.r0
  have hy1 : y + 1 < V.heap.size := heap_lt hbx.r1
  clear h hG hb ht hbx hV hy hn
  by_cases hl0 : l < 0
  · have HRR : Hid (takeM hs l t = (hs, false)) := Lib.hid (by unfold takeM; rw [if_neg (by omega)])
    rw [HRR.out]
    have HOK := Lib.hid (show ∀ wx : World, Below w.heap.size w wx → OwnN wx base (.slice A n c) (hs, false).1 from HOO.out)
    go_enter Try.func11, Try.ntmps11
    go_upto_region 1 with fail
    rw [← HVV.out, ← HYY.out]
    clear HVV HYY
    go_wp2
    generalize hW : V.setCell ⟨y + 1, 0, none⟩ (.slice A n c) = W
    obtain ⟨g1, g2, g3, g4, g5⟩ := one_fin HBX.out.r1 (show w.heap.size ≤ y + 1 by have := HBX.out.hy; omega) HBX.out.bel _ hW
    refine bodyPost_ret (v := .tuple #[.agg #[.slice A n c], .bool false]) ?_ rfl ⟨_, rfl, HOK.out W g1, g1, fun b hb => .inl hb⟩
    simp [results, Try.results11, go_sem, g3]
  · by_cases hln : (n : Int) ≤ l
    · have HRR : Hid (takeM hs l t = (hs, false)) := Lib.hid (by unfold takeM; rw [if_neg (fun hq => by have := HN.out; omega)])
      rw [HRR.out]
      have HOK := Lib.hid (show ∀ wx : World, Below w.heap.size w wx → OwnN wx base (.slice A n c) (hs, false).1 from HOO.out)
      go_enter Try.func11, Try.ntmps11
      go_upto_region 1 with fail
      rw [← HVV.out, ← HYY.out]
      clear HVV HYY
      go_wp2
      generalize hW : V.setCell ⟨y + 1, 0, none⟩ (.slice A n c) = W
      obtain ⟨g1, g2, g3, g4, g5⟩ := one_fin HBX.out.r1 (show w.heap.size ≤ y + 1 by have := HBX.out.hy; omega) HBX.out.bel _ hW
      refine bodyPost_ret (v := .tuple #[.agg #[.slice A n c], .bool false]) ?_ rfl ⟨_, rfl, HOK.out W g1, g1, fun b hb => .inl hb⟩
      simp [results, Try.results11, go_sem, g3]
    · by_cases ht0 : t < 0
      · have HRR : Hid (takeM hs l t = (hs, false)) := Lib.hid (by unfold takeM; rw [if_neg (by omega)])
        rw [HRR.out]
        have HOK := Lib.hid (show ∀ wx : World, Below w.heap.size w wx → OwnN wx base (.slice A n c) (hs, false).1 from HOO.out)
        have hln2 : ¬ (n : Int) ≤ l := hln
        go_enter Try.func11, Try.ntmps11
        go_upto_region 1 with fail
        rw [← HVV.out, ← HYY.out]
        clear HVV HYY
        go_wp2
        generalize hW : V.setCell ⟨y + 1, 0, none⟩ (.slice A n c) = W
        obtain ⟨g1, g2, g3, g4, g5⟩ := one_fin HBX.out.r1 (show w.heap.size ≤ y + 1 by have := HBX.out.hy; omega) HBX.out.bel _ hW
        refine bodyPost_ret (v := .tuple #[.agg #[.slice A n c], .bool false]) ?_ rfl ⟨_, rfl, HOK.out W g1, g1, fun b hb => .inl hb⟩
        simp [results, Try.results11, go_sem, g3]
      · obtain ⟨k, rfl⟩ : ∃ k : Nat, l = k := ⟨l.toNat, by omega⟩
        have hk : k < n := by omega
        have hkl : k < hs.length := by rw [← HN.out]; exact hk
        have HLV := HLL.out V HBX.out.bel
        obtain ⟨b, off, rfl, hat⟩ := HLV.at hkl
        have hbl := World.block_lt_of_cell? _ _ hat
        have hxe : hs.getD k (-1) = hs[k] := by rw [List.getD_eq_getElem?_getD, List.getElem?_eq_getElem hkl]; rfl
        have hxg : -1 ≤ hs[k] := (HG.out.ok _ (List.getElem_mem hkl)).1
        obtain ⟨x, hx⟩ : ∃ x, x = hs[k] := ⟨_, rfl⟩
        rw [← hx] at hat hxe hxg
        have HXE := Lib.hid hxe
        have hkn : ¬ n ≤ k := by omega
        clear HLV hx hxe hl0 hln
        by_cases hx1 : x = -1
        · have HRR : Hid (takeM hs (k : Nat) t = (hs.set k t, true)) := Lib.hid (by unfold takeM; rw [if_pos ⟨by omega, by omega, by have := HN.out; omega, by rw [Int.toNat_natCast, HXE.out]; exact hx1⟩, Int.toNat_natCast])
          rw [HRR.out]
          rw [hx1] at hat
          clear HRR hx1 hxg HXE
          go_enter Try.func11, Try.ntmps11
          go_upto_region 1 with fail
          rw [← HVV.out, ← HYY.out]
          clear HVV HYY
          have HCP := Lib.hid (rcopy_m (HLL.out V HBX.out.bel) (by have := HN.out; omega))
          go_wp2_with fail
          refine HCP.out.mono ?_
          rintro e w3 ⟨v3, rfl, o3, b3⟩
          obtain ⟨A3, c3, hv3⟩ := o3.form_n HN.out.symm
          subst hv3
          obtain ⟨g, hg, hcell⟩ := o3.cell k (by rw [← HN.out]; exact hk)
          subst hg
          have hgb := o3.lt (b := g) rfl
          have hnc3 : n ≤ c3 ∧ c3 ≤ 9223372036854775807 := by
            obtain ⟨A', c', e', h1, h2⟩ := o3.lie.form
            cases e'
            have := HN.out
            omega
          have q0 := (b3.block y (by have := HBX.out.size; omega)).trans HBX.out.r0
          have q1 := (b3.block (y + 1) (by have := HBX.out.size; omega)).trans HBX.out.r1
          have HB3 := Lib.hid (HBX.out.bel.trans (b3.mono HBX.out.bel.size))
          have HGB := Lib.hid (show y + 2 ≤ g from by have := HBX.out.size; omega)
          have HO3 := Lib.hid (o3.mono (show w.heap.size ≤ V.heap.size from HBX.out.bel.size))
          have x0 := cell_of_row w3 y 0 _ _ _ q0
          simp at x0
          have fz := fun j => frozen_of_row w3 y j _ _ q0
          have hyl3 : y < w3.heap.size := heap_lt q0
          have HQ0 := Lib.hid q0
          have HQ1 := Lib.hid q1
          clear o3 b3 q0 q1 HCP hcell d0 d1 f1 hy0 hy1 hat hbl
          go_upto_region 4 with fail
          generalize hW : w3.setCell ⟨y, 0, none⟩ (.slice (some ⟨g, 0, none⟩) n c3) = W
          obtain ⟨g1, g2, g3, g4, g5⟩ := one_fin HQ0.out (show w.heap.size ≤ y by have := HBX.out.hy; omega) HB3.out _ hW
          have HO4 : Hid (OwnN W w.heap.size (.slice (some ⟨g, 0, none⟩) n c3) hs) := Lib.hid (HO3.out.keep fun b hb => g4 b (by have e := own_eq hb; have := HGB.out; omega))
          have HW0 := Lib.hid g2
          have HW1 := Lib.hid ((g4 (y + 1) (by omega)).trans HQ1.out)
          have HBW := Lib.hid g1
          have hgW : g < W.heap.size := by rw [g5]; exact hgb.2
          have d3 := g3
          have hyW : y < W.heap.size := by rw [g5]; exact hyl3
          have fg : ∀ j, W.frozen? ⟨g, j, none⟩ = false := fun j => World.ownsRow.frozenAt (by have := HO4.out; unfold OwnN at this; rw [← HN.out] at this; exact this) j
          have hgc : W.cell? ⟨g, k, none⟩ = some (.int .i64 (hs[k]'(by rw [← HN.out]; exact hk))) := HO4.out.at (by rw [← HN.out]; exact hk)
          clear hW g1 g2 g3 g4 g5 HQ0 HQ1 HO3 HB3 x0 fz hyl3
          go_upto_region 5 with fail
          generalize hW2 : W.setCell ⟨g, k, none⟩ (.int .i64 (t)) = W2
          have HO5 := Lib.hid (show OwnN W2 w.heap.size (.slice (some ⟨g, 0, none⟩) n c3) (hs.set k (t)) from by rw [← hW2]; exact HO4.out.set HN.out.symm k _)
          have e0 := (show W2.heap[y]? = W.heap[y]? from by rw [← hW2]; exact Below.heap_setCell W _ _ y (by show y ≠ g; have := HGB.out; omega)).trans HW0.out
          have e1 := (show W2.heap[y + 1]? = W.heap[y + 1]? from by rw [← hW2]; exact Below.heap_setCell W _ _ (y + 1) (by show y + 1 ≠ g; have := HGB.out; omega)).trans HW1.out
          have HBW2 := Lib.hid (show Below w.heap.size w W2 from by rw [← hW2]; exact below_cell HBW.out (by show w.heap.size ≤ g; have := HGB.out; have := HBX.out.hy; omega) _)
          have HE1 := Lib.hid e1
          have d4 := cell_of_row W2 y 0 _ _ _ e0
          have d5 := cell_of_row W2 (y + 1) 0 _ _ _ e1
          simp at d4 d5
          have f5 := fun j => frozen_of_row W2 (y + 1) j _ _ e1
          have hy4 : y < W2.heap.size := heap_lt e0
          have hy5 : y + 1 < W2.heap.size := heap_lt e1
          clear hW2 e0 e1 HO4 HW0 HW1 HBW hgW d3 hyW fg hgc
          go_wp2
          generalize hW3 : W2.setCell ⟨y + 1, 0, none⟩ (.slice (some ⟨g, 0, none⟩) n c3) = W3
          obtain ⟨g1, g2, g3, g4, g5⟩ := one_fin HE1.out (show w.heap.size ≤ y + 1 by have := HBX.out.hy; omega) HBW2.out _ hW3
          refine bodyPost_ret (v := .tuple #[.agg #[.slice (some ⟨g, 0, none⟩) n c3], .bool true]) ?_ rfl ⟨_, rfl, (HO5.out.keep fun b hb => g4 b (by have e := own_eq hb; have := HGB.out; omega)).mono HBASE.out, g1, fun b hb => .inr (by have e := own_eq hb; have := HGB.out; have := HBX.out.hy; omega)⟩
          simp [results, Try.results11, go_sem, g3]
        · have HRR : Hid (takeM hs (k : Nat) t = (hs, false)) := Lib.hid (by unfold takeM; rw [if_neg (fun hq => hx1 (by rw [← HXE.out]; simpa using hq.2.2.2))])
          rw [HRR.out]
          have HOK := Lib.hid (show ∀ wx : World, Below w.heap.size w wx → OwnN wx base (.slice (some ⟨b, off, none⟩) n c) (hs, false).1 from HOO.out)
          have hx0 : 0 ≤ x := by omega
          clear hx1 hxg
          go_enter Try.func11, Try.ntmps11
          go_upto_region 1 with fail
          rw [← HVV.out, ← HYY.out]
          clear HVV HYY
          go_wp2
          generalize hW : V.setCell ⟨y + 1, 0, none⟩ (.slice (some ⟨b, off, none⟩) n c) = W
          obtain ⟨g1, g2, g3, g4, g5⟩ := one_fin HBX.out.r1 (show w.heap.size ≤ y + 1 by have := HBX.out.hy; omega) HBX.out.bel _ hW
          refine bodyPost_ret (v := .tuple #[.agg #[.slice (some ⟨b, off, none⟩) n c], .bool false]) ?_ rfl ⟨_, rfl, HOK.out W g1, g1, fun b hb => .inl hb⟩
          simp [results, Try.results11, go_sem, g3]

set_option maxRecDepth 100000 in
set_option maxHeartbeats 4000000 in
theorem rdrop_any {w : World} {base : Nat} {v : Value} {hs : List Int} (h : OwnN w base v hs) (hG : Good hs) (hb : base ≤ w.heap.size) (l t : Int) (ht : In64 t) :
    Calls Try.prog 13 #[.agg #[v], .int .i64 l, .int .i64 t] w (RStepQ w base v (dropM hs l t)) := by
  obtain ⟨A, c, rfl⟩ := h.form
  obtain ⟨n, hn⟩ : ∃ n, n = hs.length := ⟨_, rfl⟩
  have h8 : n ≤ 8 := by rw [hn]; exact hG.len
  have hnc : n ≤ c ∧ c ≤ 9223372036854775807 := by
    obtain ⟨A', c', e', h1, h2⟩ := h.lie.form
    cases e'
    omega
  obtain ⟨V, hV⟩ : ∃ V : World, V = (w.alloc (.cells #[.slice A hs.length c] 28)).alloc (.cells #[.slice none 0 0] 28) := ⟨_, rfl⟩
  have hbx := boxes_new w (.slice A hs.length c)
  rw [← hV] at hbx
  obtain ⟨y, hy⟩ : ∃ y, y = w.heap.size := ⟨_, rfl⟩
  rw [← hy] at hbx
  rw [← hn] at hbx hV ⊢
  have HBX := Lib.hid hbx
  have HLL := Lib.hid (show ∀ wx : World, Below w.heap.size w wx → LieN wx (.slice A n c) hs from fun wx hb2 => by rw [hn]; exact h.lie.below hb2)
  have HOO := Lib.hid (show ∀ wx : World, Below w.heap.size w wx → OwnN wx base (.slice A n c) hs from fun wx hb2 => by rw [hn]; exact h.below hb2)
  have HBASE := Lib.hid hb
  have HN := Lib.hid hn
  have HG := Lib.hid hG
  have HT := Lib.hid ht
  have HVV := Lib.hid hV
  have HYY := Lib.hid hy
  have d0 := cell_of_row V y 0 _ _ _ hbx.r0
  have d1 := cell_of_row V (y + 1) 0 _ _ _ hbx.r1
  simp at d0 d1
  have f1 := fun j => frozen_of_row V (y + 1) j _ _ hbx.r1
  have hy0 : y < V.heap.size := heap_lt hbx.r0
  have hy1 : y + 1 < V.heap.size := heap_lt hbx.r1
  clear h hG hb ht hbx hV hy hn
  by_cases ht0 : t < 0
  · have HRR : Hid (dropM hs l t = (hs, false)) := Lib.hid (by unfold dropM; rw [if_neg (by omega)])
    rw [HRR.out]
    have HOK := Lib.hid (show ∀ wx : World, Below w.heap.size w wx → OwnN wx base (.slice A n c) (hs, false).1 from HOO.out)
    go_enter Try.func13, Try.ntmps13
    go_upto_region 1 with fail
    rw [← HVV.out, ← HYY.out]
    clear HVV HYY
    go_wp2
    generalize hW : V.setCell ⟨y + 1, 0, none⟩ (.slice A n c) = W
    obtain ⟨g1, g2, g3, g4, g5⟩ := one_fin HBX.out.r1 (show w.heap.size ≤ y + 1 by have := HBX.out.hy; omega) HBX.out.bel _ hW
    refine bodyPost_ret (v := .tuple #[.agg #[.slice A n c], .bool false]) ?_ rfl ⟨_, rfl, HOK.out W g1, g1, fun b hb => .inl hb⟩
    simp [results, Try.results13, go_sem, g3]
  · have HH := rholder_any (HLL.out V HBX.out.bel) HG.out.len l
    unfold RHold at HH
    have HH := Lib.hid HH
    by_cases hv : holdM hs l = t
    · have hl : 0 ≤ l ∧ l < hs.length := by
        unfold holdM at hv
        by_cases h : 0 ≤ l ∧ l < hs.length
        · exact h
        · rw [if_neg h] at hv; omega
      obtain ⟨k, rfl⟩ : ∃ k : Nat, l = k := ⟨l.toNat, by omega⟩
      have hk : k < n := by have := HN.out; omega
      have HRR : Hid (dropM hs (k : Nat) t = (hs.set k (-1), true)) := Lib.hid (by
        have hv2 := hv
        unfold holdM at hv2
        rw [if_pos hl] at hv2
        unfold dropM
        rw [if_pos ⟨by omega, hl.1, hl.2, hv2⟩, Int.toNat_natCast])
      rw [HRR.out]
      rw [hv] at HH
      clear HRR hv hl
      go_enter Try.func13, Try.ntmps13
      go_upto_region 1 with fail
      rw [← HVV.out, ← HYY.out]
      clear HVV HYY
      go_wp2_with fail
      refine HH.out.mono ?_
      rintro e V2 ⟨rfl, b2⟩
      have HB2 := Lib.hid (HBX.out.bel.trans (b2.mono HBX.out.bel.size))
      have HR0 := Lib.hid ((b2.block y (by have := HBX.out.size; omega)).trans HBX.out.r0)
      have HR1 := Lib.hid ((b2.block (y + 1) (by have := HBX.out.size; omega)).trans HBX.out.r1)
      have HS2 := Lib.hid (show y + 2 ≤ V2.heap.size from by have := HBX.out.size; have := b2.size; omega)
      have d0' := cell_of_row V2 y 0 _ _ _ HR0.out
      have d1' := cell_of_row V2 (y + 1) 0 _ _ _ HR1.out
      simp at d0' d1'
      have f1' := fun j => frozen_of_row V2 (y + 1) j _ _ HR1.out
      have hy1' : y + 1 < V2.heap.size := heap_lt HR1.out
      have hy0' : y < V2.heap.size := heap_lt HR0.out
      clear b2 HH d0 d1 f1 hy0 hy1
      have HCP := Lib.hid (rcopy_m (HLL.out V2 HB2.out) (by have := HN.out; omega))
      go_wp2_with fail
      refine HCP.out.mono ?_
      rintro e w3 ⟨v3, rfl, o3, b3⟩
      obtain ⟨A3, c3, hv3⟩ := o3.form_n HN.out.symm
      subst hv3
      obtain ⟨g, hg, hcell⟩ := o3.cell k (by rw [← HN.out]; exact hk)
      subst hg
      have hgb := o3.lt (b := g) rfl
      have hnc3 : n ≤ c3 ∧ c3 ≤ 9223372036854775807 := by
        obtain ⟨A', c', e', h1, h2⟩ := o3.lie.form
        cases e'
        have := HN.out
        omega
      have q0 := (b3.block y (by have := HS2.out; omega)).trans HR0.out
      have q1 := (b3.block (y + 1) (by have := HS2.out; omega)).trans HR1.out
      have HB3 := Lib.hid (HB2.out.trans (b3.mono HB2.out.size))
      have HGB := Lib.hid (show y + 2 ≤ g from by have := HS2.out; omega)
      have HO3 := Lib.hid (o3.mono (show w.heap.size ≤ V2.heap.size from HB2.out.size))
      have x0 := cell_of_row w3 y 0 _ _ _ q0
      simp at x0
      have fz := fun j => frozen_of_row w3 y j _ _ q0
      have hyl3 : y < w3.heap.size := heap_lt q0
      have HQ0 := Lib.hid q0
      have HQ1 := Lib.hid q1
      clear o3 b3 q0 q1 HCP hcell d0' d1' f1' hy1' hy0'
      go_upto_region 4 with fail
      generalize hW : w3.setCell ⟨y, 0, none⟩ (.slice (some ⟨g, 0, none⟩) n c3) = W
      obtain ⟨g1, g2, g3, g4, g5⟩ := one_fin HQ0.out (show w.heap.size ≤ y by have := HBX.out.hy; omega) HB3.out _ hW
      have HO4 : Hid (OwnN W w.heap.size (.slice (some ⟨g, 0, none⟩) n c3) hs) := Lib.hid (HO3.out.keep fun b hb => g4 b (by have e := own_eq hb; have := HGB.out; omega))
      have HW0 := Lib.hid g2
      have HW1 := Lib.hid ((g4 (y + 1) (by omega)).trans HQ1.out)
      have HBW := Lib.hid g1
      have hgW : g < W.heap.size := by rw [g5]; exact hgb.2
      have d3 := g3
      have hyW : y < W.heap.size := by rw [g5]; exact hyl3
      have fg : ∀ j, W.frozen? ⟨g, j, none⟩ = false := fun j => World.ownsRow.frozenAt (by have := HO4.out; unfold OwnN at this; rw [← HN.out] at this; exact this) j
      have hgc : W.cell? ⟨g, k, none⟩ = some (.int .i64 (hs[k]'(by rw [← HN.out]; exact hk))) := HO4.out.at (by rw [← HN.out]; exact hk)
      clear hW g1 g2 g3 g4 g5 HQ0 HQ1 HO3 HB3 x0 fz hyl3
      go_upto_region 5 with fail
      generalize hW2 : W.setCell ⟨g, k, none⟩ (.int .i64 (-1)) = W2
      have HO5 := Lib.hid (show OwnN W2 w.heap.size (.slice (some ⟨g, 0, none⟩) n c3) (hs.set k (-1)) from by rw [← hW2]; exact HO4.out.set HN.out.symm k _)
      have e0 := (show W2.heap[y]? = W.heap[y]? from by rw [← hW2]; exact Below.heap_setCell W _ _ y (by show y ≠ g; have := HGB.out; omega)).trans HW0.out
      have e1 := (show W2.heap[y + 1]? = W.heap[y + 1]? from by rw [← hW2]; exact Below.heap_setCell W _ _ (y + 1) (by show y + 1 ≠ g; have := HGB.out; omega)).trans HW1.out
      have HBW2 := Lib.hid (show Below w.heap.size w W2 from by rw [← hW2]; exact below_cell HBW.out (by show w.heap.size ≤ g; have := HGB.out; have := HBX.out.hy; omega) _)
      have HE1 := Lib.hid e1
      have d4 := cell_of_row W2 y 0 _ _ _ e0
      have d5 := cell_of_row W2 (y + 1) 0 _ _ _ e1
      simp at d4 d5
      have f5 := fun j => frozen_of_row W2 (y + 1) j _ _ e1
      have hy4 : y < W2.heap.size := heap_lt e0
      have hy5 : y + 1 < W2.heap.size := heap_lt e1
      clear hW2 e0 e1 HO4 HW0 HW1 HBW hgW d3 hyW fg hgc
      go_wp2
      generalize hW3 : W2.setCell ⟨y + 1, 0, none⟩ (.slice (some ⟨g, 0, none⟩) n c3) = W3
      obtain ⟨g1, g2, g3, g4, g5⟩ := one_fin HE1.out (show w.heap.size ≤ y + 1 by have := HBX.out.hy; omega) HBW2.out _ hW3
      refine bodyPost_ret (v := .tuple #[.agg #[.slice (some ⟨g, 0, none⟩) n c3], .bool true]) ?_ rfl ⟨_, rfl, (HO5.out.keep fun b hb => g4 b (by have e := own_eq hb; have := HGB.out; omega)).mono HBASE.out, g1, fun b hb => .inr (by have e := own_eq hb; have := HGB.out; have := HBX.out.hy; omega)⟩
      simp [results, Try.results13, go_sem, g3]
    · have HRR : Hid (dropM hs l t = (hs, false)) := Lib.hid (by unfold dropM; rw [if_neg (fun hq => hv (by unfold holdM; rw [if_pos ⟨hq.2.1, hq.2.2.1⟩]; exact hq.2.2.2))])
      rw [HRR.out]
      have HOK := Lib.hid (show ∀ wx : World, Below w.heap.size w wx → OwnN wx base (.slice A n c) (hs, false).1 from HOO.out)
      obtain ⟨x, hx⟩ : ∃ x, x = holdM hs l := ⟨_, rfl⟩
      rw [← hx] at HH hv
      clear hx
      go_enter Try.func13, Try.ntmps13
      go_upto_region 1 with fail
      rw [← HVV.out, ← HYY.out]
      clear HVV HYY
      go_wp2_with fail
      refine HH.out.mono ?_
      rintro e V2 ⟨rfl, b2⟩
      have HB2 := Lib.hid (HBX.out.bel.trans (b2.mono HBX.out.bel.size))
      have HR0 := Lib.hid ((b2.block y (by have := HBX.out.size; omega)).trans HBX.out.r0)
      have HR1 := Lib.hid ((b2.block (y + 1) (by have := HBX.out.size; omega)).trans HBX.out.r1)
      have HS2 := Lib.hid (show y + 2 ≤ V2.heap.size from by have := HBX.out.size; have := b2.size; omega)
      have d0' := cell_of_row V2 y 0 _ _ _ HR0.out
      have d1' := cell_of_row V2 (y + 1) 0 _ _ _ HR1.out
      simp at d0' d1'
      have f1' := fun j => frozen_of_row V2 (y + 1) j _ _ HR1.out
      have hy1' : y + 1 < V2.heap.size := heap_lt HR1.out
      have hy0' : y < V2.heap.size := heap_lt HR0.out
      clear b2 HH d0 d1 f1 hy0 hy1
      go_wp2
      generalize hW : V2.setCell ⟨y + 1, 0, none⟩ (.slice A n c) = W
      obtain ⟨g1, g2, g3, g4, g5⟩ := one_fin HR1.out (show w.heap.size ≤ y + 1 by have := HBX.out.hy; omega) HB2.out _ hW
      refine bodyPost_ret (v := .tuple #[.agg #[.slice A n c], .bool false]) ?_ rfl ⟨_, rfl, HOK.out W g1, g1, fun b hb => .inl hb⟩
      simp [results, Try.results13, go_sem, g3]

end Go.Proofs.Ytpdihmlilbccjaa
