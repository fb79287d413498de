/- The document's own memories: Make. -/
import Derived.Test.YtnplekfpncjnpaaHbh
import Derived.Deep.CutRange
import Derived.Deep.RegionHeldLaw
set_option linter.unusedVariables false
set_option linter.unusedSimpArgs false
namespace Go.Proofs.Ytnplekfpncjnpaa
open Go.RowKit

def RMake (w : World) (S : Nat → Prop) (r : Hp × Int × Bool) (e : Ending) (w' : World) : Prop := ∃ u1 u2, e = .returned (.tuple #[.agg #[u1, u2], .int .i64 r.2.1, .bool r.2.2]) ∧ RefAt w' (fun b => S b ∨ (w.heap.size ≤ b ∧ b < w'.heap.size)) u1 u2 r.1 ∧ Below w.heap.size w w'
set_option maxRecDepth 100000 in
set_option maxHeartbeats 4000000 in
theorem rmake_any {w : World} {S : Nat → Prop} {u1 u2 : Value} {H : Hp} (X : RefAt w S u1 u2 H) (hS : ∀ b, S b → b < w.heap.size) (hg : GoodH H) (t size fn op : Int) (h1 : In64 t) (h2 : In64 size) (h3 : In64 fn) (h5 : In64 op) :
    Calls Try.prog 11 #[.agg #[u1, u2], .int .i64 t, .int .i64 size, .int .i64 fn, .int .i64 op] w (RMake w S (makeM H t size fn op)) := by
  unfold In64 at h1 h2 h3 h5
  obtain ⟨A, c, B, d, rfl, hc, rfl, hd⟩ := X.form
  obtain ⟨n, hn⟩ : ∃ n, n = H.length := ⟨_, rfl⟩
  have h4 := hg.1
  have HXK := Lib.hid (fun (wx : World) (hb : Below w.heap.size w wx) => X.keep (w' := wx) (fun b hb2 => hb.block b (hS b hb2)) (fun _ h => h))
  have HCP := Lib.hid (fun (wx : World) (hb : Below w.heap.size w wx) => rcopied_any (HXK.out wx hb) (fun b hb2 => Nat.lt_of_lt_of_le (hS b hb2) hb.size) hg)
  have hX := X
  rw [← hn] at hc hd h4 HXK HCP hX ⊢
  obtain ⟨W, hW⟩ : ∃ W : World, W = (w.alloc (.cells #[.slice A n c, .slice B n d] 29)).alloc (.cells #[.slice none 0 0, .slice none 0 0] 29) := ⟨_, rfl⟩
  have hb1 : Below w.heap.size w W := by rw [hW]; exact ((Below.refl _ w).alloc (Nat.le_refl _) _).alloc (by simp) _
  have hs : W.heap.size = w.heap.size + 2 := by rw [hW]; simp
  have r0 : W.heap[w.heap.size]? = some (.cells #[.slice A n c, .slice B n d] 29 (0, 0)) := by rw [hW, heap_alloc_old _ _ (by simp), heap_alloc_new]
  have r1 : W.heap[w.heap.size + 1]? = some (.cells #[.slice none 0 0, .slice none 0 0] 29 (0, 0)) := by rw [hW]; exact two_new w _ _ _
  obtain ⟨q, hq⟩ : ∃ q, q = w.heap.size := ⟨_, rfl⟩
  rw [← hq] at hs r0 r1
  have HW := Lib.hid hW
  have HB1 := Lib.hid hb1
  have HWS := Lib.hid hs
  have HR0 := Lib.hid r0
  have HR1 := Lib.hid r1
  have HQ := Lib.hid hq
  have x0 := cell_of_row W q 0 _ _ (0, 0) r0
  have x1 := cell_of_row W q 1 _ _ (0, 0) r0
  have y0 := cell_of_row W (q + 1) 0 _ _ (0, 0) r1
  have y1 := cell_of_row W (q + 1) 1 _ _ (0, 0) r1
  simp at x0 x1 y0 y1
  have f1 := fun j => frozen_of_row W (q + 1) j _ _ r1
  have f0 := fun j => frozen_of_row W q j _ _ r0
  have hqW : q + 1 < W.heap.size := by omega
  have HXX := Lib.hid (fun (wx : World) (hb : Below w.heap.size w wx) => (HXK.out wx hb).keep (w' := wx) (S' := fun b => S b ∨ (w.heap.size ≤ b ∧ b < wx.heap.size)) (fun _ _ => rfl) (fun _ h => .inl h))
  have HGM := Lib.hid (good_make hg t size fn op)
  have HG := Lib.hid hg
  have HN := Lib.hid hn
  unfold RMake makeM
  clear X hs r0 r1
  by_cases hA : t < 0 ∨ (H.length : Int) ≤ t
  · rw [if_pos hA]
    rw [← hn] at hA
    clear hX hS hg hW hb1 hn
    dsimp only
    by_cases ht : t < 0
    · go_enter Try.func11, Try.ntmps11
      go_upto_region 1 with fail
      rw [← HW.out, ← hq]
      clear hq
      go_wp2
      generalize hV : (W.setCell ⟨q + 1, 0, none⟩ (.slice A n c)).setCell ⟨q + 1, 1, none⟩ (.slice B n d) = V
      obtain ⟨g2, g3, g4⟩ := two_fin HR1.out (by rw [HQ.out]; omega) HB1.out _ _ hV
      refine bodyPost_ret (v := .tuple #[.agg #[.slice A n c, .slice B n d], .int .i64 0, .bool false]) ?_ rfl ⟨_, _, rfl, HXX.out V g2, g2⟩
      simp [results, Try.results11, go_sem, g3, g4]
    · have ht2 : (n : Int) ≤ t := by omega
      go_enter Try.func11, Try.ntmps11
      go_upto_region 1 with fail
      rw [← HW.out, ← hq]
      clear hq
      go_wp2
      generalize hV : (W.setCell ⟨q + 1, 0, none⟩ (.slice A n c)).setCell ⟨q + 1, 1, none⟩ (.slice B n d) = V
      obtain ⟨g2, g3, g4⟩ := two_fin HR1.out (by rw [HQ.out]; omega) HB1.out _ _ hV
      refine bodyPost_ret (v := .tuple #[.agg #[.slice A n c, .slice B n d], .int .i64 0, .bool false]) ?_ rfl ⟨_, _, rfl, HXX.out V g2, g2⟩
      simp [results, Try.results11, go_sem, g3, g4]
  · rw [if_neg hA]
    rw [← hn] at hA
    obtain ⟨k, rfl⟩ : ∃ k : Nat, t = k := ⟨t.toNat, by omega⟩
    have hkn : k < n := by omega
    have i1 : (0 : Int) ≤ (k : Int) := by omega
    have i2 : (k : Int) < (n : Int) := by omega
    have i3 : ¬ ((k : Int) < 0) := by omega
    have hkH : k < H.length := by omega
    obtain ⟨b, off, Bs, ds, rfl, hb, k0, hds, hlw⟩ := hX.words hkH
    have hl64 := (hg.get k).2
    have hol := chained_le (hg.get k).1
    obtain ⟨m, hm⟩ : ∃ m, m = (getM H k).ws.length := ⟨_, rfl⟩
    obtain ⟨m2, hm2⟩ : ∃ m, m = (getM H k).os.length := ⟨_, rfl⟩
    have hbl := hS b hb
    have kk : W.cell? ⟨b, off + k, none⟩ = some (.slice Bs (getM H k).ws.length ds) := (World.cell?_of_block (hb1.block b hbl)).trans k0
    rw [show ((k : Int)).toNat = k from by omega]
    rw [← hm, ← hm2] at hol
    rw [← hm] at kk hds hl64 ⊢
    have HM := Lib.hid hm
    have HM2 := Lib.hid hm2
    have HKH := Lib.hid hkH
    have hq' := hq
    clear hX hS hg hW hb1 hn hlw hm hm2 k0 hkH hb hbl
    by_cases hB : size < 0 ∨ 64 - (m : Int) < size
    · rw [if_pos hB]
      dsimp only
      by_cases hz : size < 0
      · go_enter Try.func11, Try.ntmps11
        go_upto_region 1 with fail
        rw [← HW.out, ← hq]
        clear hq hq'
        go_wp2
        generalize hV : (W.setCell ⟨q + 1, 0, none⟩ (.slice (some ⟨b, off, none⟩) n c)).setCell ⟨q + 1, 1, none⟩ (.slice B n d) = V
        obtain ⟨g2, g3, g4⟩ := two_fin HR1.out (by rw [HQ.out]; omega) HB1.out _ _ hV
        refine bodyPost_ret (v := .tuple #[.agg #[.slice (some ⟨b, off, none⟩) n c, .slice B n d], .int .i64 0, .bool false]) ?_ rfl ⟨_, _, rfl, HXX.out V g2, g2⟩
        simp [results, Try.results11, go_sem, g3, g4]
      · have hz2 : 64 - (m : Int) < size := by omega
        go_enter Try.func11, Try.ntmps11
        go_upto_region 1 with fail
        rw [← HW.out, ← hq]
        clear hq hq'
        go_wp2
        generalize hV : (W.setCell ⟨q + 1, 0, none⟩ (.slice (some ⟨b, off, none⟩) n c)).setCell ⟨q + 1, 1, none⟩ (.slice B n d) = V
        obtain ⟨g2, g3, g4⟩ := two_fin HR1.out (by rw [HQ.out]; omega) HB1.out _ _ hV
        refine bodyPost_ret (v := .tuple #[.agg #[.slice (some ⟨b, off, none⟩) n c, .slice B n d], .int .i64 0, .bool false]) ?_ rfl ⟨_, _, rfl, HXX.out V g2, g2⟩
        simp [results, Try.results11, go_sem, g3, g4]
    · rw [if_neg hB]
      obtain ⟨s, rfl⟩ : ∃ s : Nat, size = s := ⟨size.toNat, by omega⟩
      have j1 : ¬ ((s : Int) < 0) := by omega
      have j2 : ¬ (64 - (m : Int) < (s : Int)) := by omega
      by_cases hC : (s : Int) = 0
      · rw [if_pos hC]
        obtain rfl : s = 0 := by omega
        dsimp only
        clear hC
        go_enter Try.func11, Try.ntmps11
        go_upto_region 1 with fail
        rw [← HW.out, ← hq]
        clear hq hq'
        go_wp2
        generalize hV : (W.setCell ⟨q + 1, 0, none⟩ (.slice (some ⟨b, off, none⟩) n c)).setCell ⟨q + 1, 1, none⟩ (.slice B n d) = V
        obtain ⟨g2, g3, g4⟩ := two_fin HR1.out (by rw [HQ.out]; omega) HB1.out _ _ hV
        refine bodyPost_ret (v := .tuple #[.agg #[.slice (some ⟨b, off, none⟩) n c, .slice B n d], .int .i64 0, .bool true]) ?_ rfl ⟨_, _, rfl, HXX.out V g2, g2⟩
        simp [results, Try.results11, go_sem, g3, g4]
      · rw [if_neg hC]
        rw [show ((s : Int)).toNat = s from by omega]
        dsimp only
        have hs0 : 0 < (s : Int) := by omega
        have hmm : m + s ≤ 64 := by omega
        go_enter Try.func11, Try.ntmps11
        go_upto_region 1 with fail
        rw [← HW.out, ← hq]
        clear hq hq'
        go_wp2_with fail
        refine (HCP.out W HB1.out).mono ?_
        rintro e w3 ⟨v1, v2, X1, X2, rfl, hro, hb3⟩
        obtain ⟨A1, c1, e1⟩ := row_form hro.a.o
        obtain ⟨B1, d1, e2⟩ := row_form hro.b.o
        rw [List.length_map, ← HN.out] at e1 e2
        subst e1
        subst e2
        clear x0 x1 y0 y1 f0 f1 kk
        have k0' := (hb3.block q (by omega)).trans HR0.out
        have k1' := (hb3.block (q + 1) hqW).trans HR1.out
        have x0 := cell_of_row w3 q 0 _ _ (0, 0) k0'
        have x1 := cell_of_row w3 q 1 _ _ (0, 0) k0'
        simp at x0 x1
        have f0 := fun j => frozen_of_row w3 q j _ _ k0'
        have HK0 := Lib.hid k0'
        have HK1 := Lib.hid k1'
        have HRO := Lib.hid hro
        have HB3 := Lib.hid hb3
        have hq3 : q + 1 < w3.heap.size := by have := hb3.size; omega
        clear k0' k1' hro hb3
        go_upto_region 6 with fail
        generalize hV : (w3.setCell ⟨q, 0, none⟩ (.slice A1 n c1)).setCell ⟨q, 1, none⟩ (.slice B1 n d1) = V
        obtain ⟨z0, zo, zb, zs⟩ := two_row HK0.out _ _ hV
        have z1 := (zo (q + 1) (by omega)).trans HK1.out
        have hroV := HRO.out.keep (w' := V) (fun b hb => zo b (by omega))
        obtain ⟨base, hbase⟩ : ∃ b, b = W.heap.size := ⟨_, rfl⟩
        rw [← hbase] at hroV
        have hc0 : CSt V V q base (H.map (·.ws)) (H.map (·.os)) (.slice A1 n c1) (.slice B1 n d1) X1 X2 := ⟨by omega, z0, hroV.a, hroV.b, hroV.ap, Below.refl _ _, by have := HB3.out.size; omega, fun _ _ _ => rfl⟩
        have hVs : Below w.heap.size w V := HB1.out.trans ((HB3.out.mono HB1.out.size).trans (zb.mono (by rw [HQ.out]; exact Nat.le_refl _)))
        obtain ⟨g1, Br1, dr1, _, _, _, ⟨c', ev⟩, kc1, -, hgl1, -⟩ := hc0.push1 (ws_at H HKH.out) HM.out.symm (by omega) noWd
        simp only [Value.slice.injEq] at ev
        obtain ⟨rfl, -, rfl⟩ := ev
        obtain ⟨g2, Br, dr, B3, d3, w2, ⟨c', ev⟩, kc2, -, hgl2, hrun, kw2, fw2, hbw2, hsw2, hz2, hput⟩ := hc0.push2 (os_at H HKH.out) HM2.out.symm (by omega) ⟨m, s, fn, op⟩
        simp only [Value.slice.injEq] at ev
        obtain ⟨rfl, -, rfl⟩ := ev
        have o0 := cell_of_row V q 0 _ _ (0, 0) z0
        have o1 := cell_of_row V q 1 _ _ (0, 0) z0
        simp at o0 o1
        have hqV : q < V.heap.size := heap_lt z0
        have hLD : Below V.heap.size V V.drew := (Below.refl _ V).drew
        have hLA : Below V.heap.size V (V.drew.alloc (.cells #[.int .i64 (m : Nat), .int .i64 (s : Nat), .int .i64 fn, .int .i64 op] 45)) := hLD.alloc (Nat.le_refl _) _
        have SD := Lib.hid ((hLD.cell (p := ⟨q, 1, none⟩) hqV).trans o1)
        have SA := Lib.hid ((hLA.cell (p := ⟨q, 1, none⟩) hqV).trans o1)
        have HLO := Lib.hid kc2
        have HLA := Lib.hid ((hLA.cell (p := ⟨g2, k, none⟩) hgl2).trans kc2)
        have HRUN : Hid ((Builtin.append_ #[49, 49] 49 #[.slice Br m2 dr, .slice (some ⟨V.heap.size, 0, none⟩) 1 1]).run Try.prog (V.drew.alloc (.cells #[.int .i64 (m : Nat), .int .i64 (s : Nat), .int .i64 fn, .int .i64 op] 45)) = .ok (.slice B3 (m2 + 1) d3) w2) := Lib.hid hrun
        have S2 : Hid (w2.cell? ⟨q, 1, none⟩ = some (.slice (some ⟨g2, 0, none⟩) n d1)) := Lib.hid (by rw [cell_of_row _ _ 1 _ _ (0, 0) hz2]; rfl)
        have S3 : Hid ((w2.setCell ⟨g2, k, none⟩ (.slice B3 (m2 + 1) d3)).cell? ⟨q, 1, none⟩ = some (.slice (some ⟨g2, 0, none⟩) n d1)) := Lib.hid (by rw [cell_of_row _ _ 1 _ _ (0, 0) hput.row]; rfl)
        have HL2 := Lib.hid kw2
        have HF2 := Lib.hid fw2
        obtain ⟨L2, hL2⟩ : ∃ L, L = (H.map (·.os)).set k ((getM H k).os ++ [⟨m, s, fn, op⟩]) := ⟨_, rfl⟩
        rw [← hL2] at hput
        have HL2E := Lib.hid hL2
        have HP := Lib.hid hput
        have HVS := Lib.hid hVs
        have HZ1 := Lib.hid z1
        have HBA := Lib.hid hbase
        clear hV z0 zo zb zs z1 hroV hbase hc0 hVs hrun kw2 fw2 hbw2 hsw2 hz2 hput hL2 x0 x1 f0 kc2 hLD hLA
        go_upto_region 7 with fail
        clear o0 o1 kc1
        go_cut [] from 51 to 67 (fun wx => ∃ X2' : List Value, Hid (CSt V wx q base (H.map (·.ws)) L2 (.slice (some ⟨g1, 0, none⟩) n c1) (.slice (some ⟨g2, 0, none⟩) n d1) X1 X2'))
        case first =>
          have HDONE : Hid (∃ X2' : List Value, Hid (CSt V (w2.setCell ⟨g2, k, none⟩ (.slice B3 (m2 + 1) d3)) q base (H.map (·.ws)) L2 (.slice (some ⟨g1, 0, none⟩) n c1) (.slice (some ⟨g2, 0, none⟩) n d1) X1 X2')) := Lib.hid ⟨_, HP⟩
          refine wp_region_held_drew (S := fun W => W.cell? ⟨q, 1, none⟩ = some (.slice (some ⟨g2, 0, none⟩) n d1)) (by kernel_rfl) SD.out (fun hHeld => ?_)
          refine take_at (i := 0) (oi := _) (v := .pointer (some ⟨q, 1, none⟩)) rfl rfl (by kernel_rfl) (by kernel_rfl) (by kernel_rfl) (fun _ _ _ h => h) (Or.inl ⟨by rfl, fun W hSw => ?_⟩) hHeld ?_
          · have e1 := hSw
            go_simp
          simp only [List.setIfInBounds_toArray, List.set_cons_zero, List.set_cons_succ]
          refine take_at (i := 1) (oi := _) (v := .slice (some ⟨g2, 0, none⟩) n d1) rfl rfl (by kernel_rfl) (by kernel_rfl) (by kernel_rfl) (fun _ _ _ h => h) (Or.inl ⟨by rfl, fun W hSw => ?_⟩) hHeld ?_
          · have e1 := hSw
            go_simp
          simp only [List.setIfInBounds_toArray, List.set_cons_zero, List.set_cons_succ]
          refine take_at (i := 2) (oi := _) (v := .int .i64 (k : Nat)) rfl rfl (by kernel_rfl) (by kernel_rfl) (by kernel_rfl) (fun _ _ _ h => h) (Or.inl ⟨by rfl, fun W hSw => ?_⟩) hHeld ?_
          · have e1 := hSw
            go_simp
          simp only [List.setIfInBounds_toArray, List.set_cons_zero, List.set_cons_succ]
          refine take_at (i := 3) (oi := _) (v := .pointer (some ⟨q, 1, none⟩)) rfl rfl (by kernel_rfl) (by kernel_rfl) (by kernel_rfl) (fun _ _ _ h => h) (Or.inl ⟨by rfl, fun W hSw => ?_⟩) hHeld ?_
          · have e1 := hSw
            go_simp
          simp only [List.setIfInBounds_toArray, List.set_cons_zero, List.set_cons_succ]
          refine take_at (i := 4) (oi := _) (v := .slice (some ⟨g2, 0, none⟩) n d1) rfl rfl (by kernel_rfl) (by kernel_rfl) (by kernel_rfl) (fun _ _ _ h => h) (Or.inl ⟨by rfl, fun W hSw => ?_⟩) hHeld ?_
          · have e1 := hSw
            go_simp
          simp only [List.setIfInBounds_toArray, List.set_cons_zero, List.set_cons_succ]
          refine take_at (i := 5) (oi := _) (v := .int .i64 (k : Nat)) rfl rfl (by kernel_rfl) (by kernel_rfl) (by kernel_rfl) (fun _ _ _ h => h) (Or.inl ⟨by rfl, fun W hSw => ?_⟩) hHeld ?_
          · have e1 := hSw
            go_simp
          simp only [List.setIfInBounds_toArray, List.set_cons_zero, List.set_cons_succ]
          refine take_at (i := 6) (oi := _) (v := .pointer (some ⟨g2, k, none⟩)) rfl rfl (by kernel_rfl) (by kernel_rfl) (by kernel_rfl) (fun _ _ _ h => h) (Or.inl ⟨by rfl, fun W hSw => ?_⟩) hHeld ?_
          · have e1 := hSw
            go_simp
          simp only [List.setIfInBounds_toArray, List.set_cons_zero, List.set_cons_succ]
          refine take_at (i := 8) (oi := _) (v := .int .i64 (m : Nat)) rfl rfl (by kernel_rfl) (by kernel_rfl) (by kernel_rfl) (fun _ _ _ h => h) (Or.inl ⟨by rfl, fun W hSw => ?_⟩) hHeld ?_
          · have e1 := hSw
            go_simp
          simp only [List.setIfInBounds_toArray, List.set_cons_zero, List.set_cons_succ]
          refine take_at (i := 9) (oi := _) (v := .int .i64 (s : Nat)) rfl rfl (by kernel_rfl) (by kernel_rfl) (by kernel_rfl) (fun _ _ _ h => h) (Or.inl ⟨by rfl, fun W hSw => ?_⟩) hHeld ?_
          · have e1 := hSw
            go_simp
          simp only [List.setIfInBounds_toArray, List.set_cons_zero, List.set_cons_succ]
          refine take_at (i := 10) (oi := _) (v := .int .i64 fn) rfl rfl (by kernel_rfl) (by kernel_rfl) (by kernel_rfl) (fun _ _ _ h => h) (Or.inl ⟨by rfl, fun W hSw => ?_⟩) hHeld ?_
          · have e1 := hSw
            go_simp
          simp only [List.setIfInBounds_toArray, List.set_cons_zero, List.set_cons_succ]
          refine take_at (i := 11) (oi := _) (v := .int .i64 op) rfl rfl (by kernel_rfl) (by kernel_rfl) (by kernel_rfl) (fun _ _ _ h => h) (Or.inl ⟨by rfl, fun W hSw => ?_⟩) hHeld ?_
          · have e1 := hSw
            go_simp
          simp only [List.setIfInBounds_toArray, List.set_cons_zero, List.set_cons_succ]
          refine take_at (i := 12) (oi := _) (v := .agg #[.int .i64 (m : Nat), .int .i64 (s : Nat), .int .i64 fn, .int .i64 op]) rfl rfl (by kernel_rfl) (by kernel_rfl) (by kernel_rfl) (fun _ _ _ h => h) (Or.inl ⟨by rfl, fun W hSw => ?_⟩) hHeld ?_
          · have e1 := hSw
            go_simp
          simp only [List.setIfInBounds_toArray, List.set_cons_zero, List.set_cons_succ]
          refine wpAnyH_ready (rs := [7, 13]) (by kernel_rfl) (by simp) ?_
          refine AllReadyH.cons rfl (fun K hK => ?_) ?_
          · have k1 := HLO.out
            have k2 := HLA.out
            go_simp
            clear k1 k2
            refine hK.out _ _ SD.out (fun hHeld => ?_)
            clear hK K
            try simp only [List.setIfInBounds_toArray, List.set_cons_zero, List.set_cons_succ]
            refine wpAnyH_ready (rs := [13]) (by kernel_rfl) (by simp) ?_
            refine AllReadyH.cons rfl (fun K hK => ?_) ?_
            · go_simp
              refine hK.out _ _ SA.out (fun hHeld => ?_)
              clear hK K
              try simp only [List.setIfInBounds_toArray, List.set_cons_zero, List.set_cons_succ]
              refine wpAnyH_ready (rs := [14]) (by kernel_rfl) (by simp) ?_
              refine AllReadyH.cons rfl (fun K hK => ?_) ?_
              · refine step_append_run 65 rfl rfl _ _ 49 rfl (.slice Br m2 dr) (.slice (some ⟨V.heap.size, 0, none⟩) 1 1) rfl rfl _ rfl HRUN.out ?_
                refine hK.out _ _ S2.out (fun hHeld => ?_)
                clear hK K
                try simp only [List.setIfInBounds_toArray, List.set_cons_zero, List.set_cons_succ]
                refine take_at (i := 15) (oi := _) (v := .pointer (some ⟨g2, k, none⟩)) rfl rfl (by kernel_rfl) (by kernel_rfl) (by kernel_rfl) (fun _ _ _ h => h) (Or.inl ⟨by rfl, fun W hSw => ?_⟩) hHeld ?_
                · have e1 := hSw
                  go_simp
                simp only [List.setIfInBounds_toArray, List.set_cons_zero, List.set_cons_succ]
                refine wpAnyH_ready (rs := [16]) (by kernel_rfl) (by simp) ?_
                refine AllReadyH.cons rfl (fun K hK => ?_) ?_
                · have k1 := HL2.out
                  have f1 := HF2.out
                  go_simp
                  clear k1 f1
                  refine hK.out _ _ S3.out (fun hHeld => ?_)
                  clear hK K
                  try simp only [List.setIfInBounds_toArray, List.set_cons_zero, List.set_cons_succ]
                  refine wpAnyH_done (by kernel_rfl) ?_ _
                  go_wp2_with fail
                  go_meet
                  exact HDONE.out
                exact AllReadyH.nil
              exact AllReadyH.nil
            exact AllReadyH.nil
          refine AllReadyH.cons rfl (fun K hK => ?_) ?_
          · go_simp
            refine hK.out _ _ SA.out (fun hHeld => ?_)
            clear hK K
            try simp only [List.setIfInBounds_toArray, List.set_cons_zero, List.set_cons_succ]
            refine wpAnyH_ready (rs := [7]) (by kernel_rfl) (by simp) ?_
            refine AllReadyH.cons rfl (fun K hK => ?_) ?_
            · have k1 := HLO.out
              have k2 := HLA.out
              go_simp
              clear k1 k2
              refine hK.out _ _ SA.out (fun hHeld => ?_)
              clear hK K
              try simp only [List.setIfInBounds_toArray, List.set_cons_zero, List.set_cons_succ]
              refine wpAnyH_ready (rs := [14]) (by kernel_rfl) (by simp) ?_
              refine AllReadyH.cons rfl (fun K hK => ?_) ?_
              · refine step_append_run 65 rfl rfl _ _ 49 rfl (.slice Br m2 dr) (.slice (some ⟨V.heap.size, 0, none⟩) 1 1) rfl rfl _ rfl HRUN.out ?_
                refine hK.out _ _ S2.out (fun hHeld => ?_)
                clear hK K
                try simp only [List.setIfInBounds_toArray, List.set_cons_zero, List.set_cons_succ]
                refine take_at (i := 15) (oi := _) (v := .pointer (some ⟨g2, k, none⟩)) rfl rfl (by kernel_rfl) (by kernel_rfl) (by kernel_rfl) (fun _ _ _ h => h) (Or.inl ⟨by rfl, fun W hSw => ?_⟩) hHeld ?_
                · have e1 := hSw
                  go_simp
                simp only [List.setIfInBounds_toArray, List.set_cons_zero, List.set_cons_succ]
                refine wpAnyH_ready (rs := [16]) (by kernel_rfl) (by simp) ?_
                refine AllReadyH.cons rfl (fun K hK => ?_) ?_
                · have k1 := HL2.out
                  have f1 := HF2.out
                  go_simp
                  clear k1 f1
                  refine hK.out _ _ S3.out (fun hHeld => ?_)
                  clear hK K
                  try simp only [List.setIfInBounds_toArray, List.set_cons_zero, List.set_cons_succ]
                  refine wpAnyH_done (by kernel_rfl) ?_ _
                  go_wp2_with fail
                  go_meet
                  exact HDONE.out
                exact AllReadyH.nil
              exact AllReadyH.nil
            exact AllReadyH.nil
          exact AllReadyH.nil
        case rest =>
          obtain ⟨X2', HC7⟩ := hcut
          clear SD SA HLO HLA HRUN S2 S3 HL2 HF2 HP
          have HC8 : Hid (CSt V wc q base ((H.map (·.ws)).set k ((getM H k).ws ++ List.replicate 0 noWd)) L2 (.slice (some ⟨g1, 0, none⟩) n c1) (.slice (some ⟨g2, 0, none⟩) n d1) X1 X2') := Lib.hid (by
            rw [List.replicate_zero, List.append_nil, set_same (ws_at H HKH.out)]
            exact HC7.out)
          go_wp2
          go_loopw [14] (fun x wr => ∃ (j : Nat) (Y1 : List Value), j ≤ s ∧ x = .int .i64 (j : Nat) ∧ Hid (CSt V wr q base ((H.map (·.ws)).set k ((getM H k).ws ++ List.replicate j noWd)) L2 (.slice (some ⟨g1, 0, none⟩) n c1) (.slice (some ⟨g2, 0, none⟩) n d1) Y1 X2')) (fun x _ => s - (intOf x).toNat)
          case atStart => exact ⟨0, _, Nat.zero_le _, rfl, HC8⟩
          case round =>
            clear HC7 HC8
            obtain ⟨wo, rfl⟩ : ∃ wo : World, wo = wr := ⟨_, rfl⟩
            obtain ⟨j, Y1, hj, rfl, HC⟩ := hrel
            have z0 := HC.out.row
            have o0 := cell_of_row wo q 0 _ _ (0, 0) z0
            have o1 := cell_of_row wo q 1 _ _ (0, 0) z0
            simp at o0 o1
            have hqo : q < wo.heap.size := heap_lt z0
            by_cases hlt : j < s
            · have hlr : ((H.map (·.ws)).set k ((getM H k).ws ++ List.replicate j noWd))[k]? = some ((getM H k).ws ++ List.replicate j noWd) := List.getElem?_set_self (by rw [List.length_map]; exact HKH.out)
              obtain ⟨g, Br, dr, B3, d3, w2, ⟨c', ev⟩, kc2, -, hgl2, hrun, kw2, fw2, hbw2, hsw2, hz2, hput⟩ := HC.out.push1 (m := m + j) hlr (by rw [List.length_append, List.length_replicate, HM.out]) (by omega) noWd
              injection ev with ea eb ec
              injection ea with ea
              injection ea with ea
              subst ea
              clear eb ec
              rw [List.set_set, List.append_assoc, ← List.replicate_succ'] at hput
              have hLD : Below wo.heap.size wo wo.drew := (Below.refl _ wo).drew
              have hLA : Below wo.heap.size wo (wo.drew.alloc (.cells #[.int .i64 0, .int .i64 0] 40)) := hLD.alloc (Nat.le_refl _) _
              have SD := Lib.hid ((hLD.cell (p := ⟨q, 0, none⟩) hqo).trans o0)
              have SA := Lib.hid ((hLA.cell (p := ⟨q, 0, none⟩) hqo).trans o0)
              have HLO := Lib.hid kc2
              have HLA := Lib.hid ((hLA.cell (p := ⟨g1, k, none⟩) hgl2).trans kc2)
              have HRUN : Hid ((Builtin.append_ #[48, 48] 48 #[.slice Br (m + j) dr, .slice (some ⟨wo.heap.size, 0, none⟩) 1 1]).run Try.prog (wo.drew.alloc (.cells #[.int .i64 0, .int .i64 0] 40)) = .ok (.slice B3 (m + j + 1) d3) w2) := Lib.hid hrun
              have S2 : Hid (w2.cell? ⟨q, 0, none⟩ = some (.slice (some ⟨g1, 0, none⟩) n c1)) := Lib.hid (by rw [cell_of_row _ _ 0 _ _ (0, 0) hz2]; rfl)
              have S3 : Hid ((w2.setCell ⟨g1, k, none⟩ (.slice B3 (m + j + 1) d3)).cell? ⟨q, 0, none⟩ = some (.slice (some ⟨g1, 0, none⟩) n c1)) := Lib.hid (by rw [cell_of_row _ _ 0 _ _ (0, 0) hput.row]; rfl)
              have HL2 := Lib.hid kw2
              have HF2 := Lib.hid fw2
              have HP := Lib.hid hput
              have i4 : (j : Int) < (s : Int) := by omega
              clear z0 o0 o1 hlr kc2 hrun kw2 fw2 hbw2 hsw2 hz2 hput hLD hLA HC
              go_upto_region 11 with fail
              refine wp_region_held_drew (S := fun W => W.cell? ⟨q, 0, none⟩ = some (.slice (some ⟨g1, 0, none⟩) n c1)) (by kernel_rfl) SD.out (fun hHeld => ?_)
              refine take_at (i := 0) (oi := _) (v := .pointer (some ⟨q, 0, none⟩)) rfl rfl (by kernel_rfl) (by kernel_rfl) (by kernel_rfl) (fun _ _ _ h => h) (Or.inl ⟨by rfl, fun W hSw => ?_⟩) hHeld ?_
              · have e1 := hSw
                go_simp
              simp only [List.setIfInBounds_toArray, List.set_cons_zero, List.set_cons_succ]
              refine take_at (i := 1) (oi := _) (v := .slice (some ⟨g1, 0, none⟩) n c1) rfl rfl (by kernel_rfl) (by kernel_rfl) (by kernel_rfl) (fun _ _ _ h => h) (Or.inl ⟨by rfl, fun W hSw => ?_⟩) hHeld ?_
              · have e1 := hSw
                go_simp
              simp only [List.setIfInBounds_toArray, List.set_cons_zero, List.set_cons_succ]
              refine take_at (i := 2) (oi := _) (v := .int .i64 (k : Nat)) rfl rfl (by kernel_rfl) (by kernel_rfl) (by kernel_rfl) (fun _ _ _ h => h) (Or.inl ⟨by rfl, fun W hSw => ?_⟩) hHeld ?_
              · have e1 := hSw
                go_simp
              simp only [List.setIfInBounds_toArray, List.set_cons_zero, List.set_cons_succ]
              refine take_at (i := 3) (oi := _) (v := .pointer (some ⟨q, 0, none⟩)) rfl rfl (by kernel_rfl) (by kernel_rfl) (by kernel_rfl) (fun _ _ _ h => h) (Or.inl ⟨by rfl, fun W hSw => ?_⟩) hHeld ?_
              · have e1 := hSw
                go_simp
              simp only [List.setIfInBounds_toArray, List.set_cons_zero, List.set_cons_succ]
              refine take_at (i := 4) (oi := _) (v := .slice (some ⟨g1, 0, none⟩) n c1) rfl rfl (by kernel_rfl) (by kernel_rfl) (by kernel_rfl) (fun _ _ _ h => h) (Or.inl ⟨by rfl, fun W hSw => ?_⟩) hHeld ?_
              · have e1 := hSw
                go_simp
              simp only [List.setIfInBounds_toArray, List.set_cons_zero, List.set_cons_succ]
              refine take_at (i := 5) (oi := _) (v := .int .i64 (k : Nat)) rfl rfl (by kernel_rfl) (by kernel_rfl) (by kernel_rfl) (fun _ _ _ h => h) (Or.inl ⟨by rfl, fun W hSw => ?_⟩) hHeld ?_
              · have e1 := hSw
                go_simp
              simp only [List.setIfInBounds_toArray, List.set_cons_zero, List.set_cons_succ]
              refine take_at (i := 6) (oi := _) (v := .pointer (some ⟨g1, k, none⟩)) rfl rfl (by kernel_rfl) (by kernel_rfl) (by kernel_rfl) (fun _ _ _ h => h) (Or.inl ⟨by rfl, fun W hSw => ?_⟩) hHeld ?_
              · have e1 := hSw
                go_simp
              simp only [List.setIfInBounds_toArray, List.set_cons_zero, List.set_cons_succ]
              refine take_at (i := 8) (oi := _) (v := .agg #[.int .i64 0, .int .i64 0]) rfl rfl (by kernel_rfl) (by kernel_rfl) (by kernel_rfl) (fun _ _ _ h => h) (Or.inl ⟨by rfl, fun W hSw => ?_⟩) hHeld ?_
              · have e1 := hSw
                go_simp
              simp only [List.setIfInBounds_toArray, List.set_cons_zero, List.set_cons_succ]
              refine wpAnyH_ready (rs := [7, 9]) (by kernel_rfl) (by simp) ?_
              refine AllReadyH.cons rfl (fun K hK => ?_) ?_
              · have k1 := HLO.out
                have k2 := HLA.out
                go_simp
                clear k1 k2
                refine hK.out _ _ SD.out (fun hHeld => ?_)
                clear hK K
                try simp only [List.setIfInBounds_toArray, List.set_cons_zero, List.set_cons_succ]
                refine wpAnyH_ready (rs := [9]) (by kernel_rfl) (by simp) ?_
                refine AllReadyH.cons rfl (fun K hK => ?_) ?_
                · go_simp
                  refine hK.out _ _ SA.out (fun hHeld => ?_)
                  clear hK K
                  try simp only [List.setIfInBounds_toArray, List.set_cons_zero, List.set_cons_succ]
                  refine wpAnyH_ready (rs := [10]) (by kernel_rfl) (by simp) ?_
                  refine AllReadyH.cons rfl (fun K hK => ?_) ?_
                  · refine step_append_run 82 rfl rfl _ _ 48 rfl (.slice Br (m + j) dr) (.slice (some ⟨wo.heap.size, 0, none⟩) 1 1) rfl rfl _ rfl HRUN.out ?_
                    refine hK.out _ _ S2.out (fun hHeld => ?_)
                    clear hK K
                    try simp only [List.setIfInBounds_toArray, List.set_cons_zero, List.set_cons_succ]
                    refine take_at (i := 11) (oi := _) (v := .pointer (some ⟨g1, k, none⟩)) rfl rfl (by kernel_rfl) (by kernel_rfl) (by kernel_rfl) (fun _ _ _ h => h) (Or.inl ⟨by rfl, fun W hSw => ?_⟩) hHeld ?_
                    · have e1 := hSw
                      go_simp
                    simp only [List.setIfInBounds_toArray, List.set_cons_zero, List.set_cons_succ]
                    refine wpAnyH_ready (rs := [12]) (by kernel_rfl) (by simp) ?_
                    refine AllReadyH.cons rfl (fun K hK => ?_) ?_
                    · have k1 := HL2.out
                      have f1 := HF2.out
                      go_simp
                      clear k1 f1
                      refine hK.out _ _ S3.out (fun hHeld => ?_)
                      clear hK K
                      try simp only [List.setIfInBounds_toArray, List.set_cons_zero, List.set_cons_succ]
                      refine wpAnyH_done (by kernel_rfl) ?_ _
                      go_wp2
                      go_roundw
                      case rel => exact ⟨j + 1, _, by omega, by go_num, HP⟩
                      case measure => simp [intOf]; omega
                    exact AllReadyH.nil
                  exact AllReadyH.nil
                exact AllReadyH.nil
              refine AllReadyH.cons rfl (fun K hK => ?_) ?_
              · go_simp
                refine hK.out _ _ SA.out (fun hHeld => ?_)
                clear hK K
                try simp only [List.setIfInBounds_toArray, List.set_cons_zero, List.set_cons_succ]
                refine wpAnyH_ready (rs := [7]) (by kernel_rfl) (by simp) ?_
                refine AllReadyH.cons rfl (fun K hK => ?_) ?_
                · have k1 := HLO.out
                  have k2 := HLA.out
                  go_simp
                  clear k1 k2
                  refine hK.out _ _ SA.out (fun hHeld => ?_)
                  clear hK K
                  try simp only [List.setIfInBounds_toArray, List.set_cons_zero, List.set_cons_succ]
                  refine wpAnyH_ready (rs := [10]) (by kernel_rfl) (by simp) ?_
                  refine AllReadyH.cons rfl (fun K hK => ?_) ?_
                  · refine step_append_run 82 rfl rfl _ _ 48 rfl (.slice Br (m + j) dr) (.slice (some ⟨wo.heap.size, 0, none⟩) 1 1) rfl rfl _ rfl HRUN.out ?_
                    refine hK.out _ _ S2.out (fun hHeld => ?_)
                    clear hK K
                    try simp only [List.setIfInBounds_toArray, List.set_cons_zero, List.set_cons_succ]
                    refine take_at (i := 11) (oi := _) (v := .pointer (some ⟨g1, k, none⟩)) rfl rfl (by kernel_rfl) (by kernel_rfl) (by kernel_rfl) (fun _ _ _ h => h) (Or.inl ⟨by rfl, fun W hSw => ?_⟩) hHeld ?_
                    · have e1 := hSw
                      go_simp
                    simp only [List.setIfInBounds_toArray, List.set_cons_zero, List.set_cons_succ]
                    refine wpAnyH_ready (rs := [12]) (by kernel_rfl) (by simp) ?_
                    refine AllReadyH.cons rfl (fun K hK => ?_) ?_
                    · have k1 := HL2.out
                      have f1 := HF2.out
                      go_simp
                      clear k1 f1
                      refine hK.out _ _ S3.out (fun hHeld => ?_)
                      clear hK K
                      try simp only [List.setIfInBounds_toArray, List.set_cons_zero, List.set_cons_succ]
                      refine wpAnyH_done (by kernel_rfl) ?_ _
                      go_wp2
                      go_roundw
                      case rel => exact ⟨j + 1, _, by omega, by go_num, HP⟩
                      case measure => simp [intOf]; omega
                    exact AllReadyH.nil
                  exact AllReadyH.nil
                exact AllReadyH.nil
              exact AllReadyH.nil
            · obtain rfl : s = j := by omega
              have ho : wo.heap[q + 1]? = some (.cells #[.slice none 0 0, .slice none 0 0] 29 (0, 0)) := (HC.out.oth (q + 1) (by rw [HBA.out]; exact hqW) (by omega)).trans HZ1.out
              have y0 := cell_of_row wo (q + 1) 0 _ _ (0, 0) ho
              have y1 := cell_of_row wo (q + 1) 1 _ _ (0, 0) ho
              simp at y0 y1
              have f1 := fun j => frozen_of_row wo (q + 1) j _ _ ho
              have hq1o : q + 1 < wo.heap.size := heap_lt ho
              have HO := Lib.hid ho
              have HBW : Hid (Below w.heap.size w wo) := Lib.hid (HVS.out.trans (HC.out.bel.mono (by rw [HQ.out]; exact Nat.le_refl _)))
              have HGOOD : Hid (GoodH (H.set k ⟨(getM H k).ws ++ List.replicate s noWd, (getM H k).os ++ [⟨m, s, fn, op⟩]⟩)) := Lib.hid (by
                have h := good_make HG.out (k : Int) (s : Int) fn op
                unfold makeM at h
                simp only [Int.toNat_natCast] at h
                rw [← HM.out, ← HN.out, if_neg (by omega), if_neg (by omega), if_neg (by omega)] at h
                exact h)
              have hmax : (1 : Int) + (k : Int) * 64 + (m : Int) ≤ 1000 := by omega
              clear z0 ho
              go_wp2
              generalize hV : (wo.setCell ⟨q + 1, 0, none⟩ (.slice (some ⟨g1, 0, none⟩) n c1)).setCell ⟨q + 1, 1, none⟩ (.slice (some ⟨g2, 0, none⟩) n d1) = V6
              obtain ⟨e2, e3, e4⟩ := two_fin HO.out (by rw [HQ.out]; omega) HBW.out _ _ hV
              obtain ⟨-, zo, -, -⟩ := two_row HO.out _ _ hV
              have hro6 : ROwn V6 base (H.set k ⟨(getM H k).ws ++ List.replicate s noWd, (getM H k).os ++ [⟨m, s, fn, op⟩]⟩) (.slice (some ⟨g1, 0, none⟩) n c1) (.slice (some ⟨g2, 0, none⟩) n d1) Y1 X2' := by
                have hz1 : ∀ b, base ≤ b → V6.heap[b]? = wo.heap[b]? := fun b hb => zo b (by have := HBA.out; omega)
                refine ⟨?_, ?_, HC.out.ap⟩
                · unfold OwnWs
                  rw [map_ws_set H HKH.out]
                  exact HC.out.a.keep (fun b hb => hz1 b (HC.out.a.lt hb).1)
                · unfold OwnOs
                  rw [map_os_set H HKH.out, ← HL2E.out]
                  exact HC.out.b.keep (fun b hb => hz1 b (HC.out.b.lt hb).1)
              refine bodyPost_ret (v := .tuple #[.agg #[.slice (some ⟨g1, 0, none⟩) n c1, .slice (some ⟨g2, 0, none⟩) n d1], .int .i64 (1 + (k : Int) * 64 + (m : Int)), .bool true]) ?_ rfl ⟨_, _, rfl, ?_, e2⟩
              · simp [results, Try.results11, go_sem, e3, e4]
              · exact (hro6.ref HGOOD.out).keep (fun _ _ => rfl) (fun b hb => .inr ⟨by have := HBA.out; have := HB1.out.size; omega, hb.2⟩)

end Go.Proofs.Ytnplekfpncjnpaa
