/- Layer 8: a walk of (*valuer).expr. -/
import Derived.Test.YtadkimnpeachpaaGreatDoorPvf
set_option linter.unusedVariables false
set_option linter.unusedSimpArgs false
namespace Go.Proofs.YtadkimnpeachpaaGreatDoor
open Go.RowKit

set_option maxRecDepth 100000 in
set_option maxHeartbeats 4000000 in
theorem expr_10 {w0 : World} {B : Nat} {nms : List (List UInt8)} {xs : List Int} {nv iv : Value} {E0_ E1_ : Ex} {A : Option Addr} {c : Nat} {p n deep L left : Int} {s : List UInt8} {g G : Nat} {w W : World} (X : VF w0 B nms xs nv iv [E0_, E1_] A c (10) p n deep L s g G W) (hG : G = w.heap.size) (hW : W = (w.setCell ⟨g, 2, none⟩ (.int .i64 L)).alloc (.cells #[.int .i64 10, .int .i64 p, .int .i64 n, .string (strOf s), .slice A ([E0_, E1_] : List Ex).length c] 24))
    (c2 : w.cell? ⟨g, 2, none⟩ = some (.int .i64 left)) (f2 : w.frozen? ⟨g, 2, none⟩ = false) (hwl : IntKind.i64.wrap (left - 1) = L) (hmay : mayB 10 s = true) (hsg : s ∈ [[43], [45], [42], [47], [37]]) :
    Calls Tryz.prog 20 #[.pointer (some ⟨g, 0, none⟩), .agg #[.int .i64 10, .int .i64 p, .int .i64 n, .string (strOf s), .slice A ([E0_, E1_] : List Ex).length c], .int .i64 deep] w fun e w' => e = .returned (.int .i64 (opV s (valE nms xs E0_) (valE nms xs E1_))) ∧ ∃ l', L - (partsL [E0_, E1_] : Int) ≤ l' ∧ l' ≤ L ∧ VBox w' g nv iv l' ∧ But g B W w' := by
  have HM := Lib.hid X.may
  obtain ⟨z0, z1, z2, z3, z4⟩ := X.z (w' := W) rfl
  obtain ⟨v0, v1, v2⟩ := X.v.cells
  have hL0 : ¬ L < 0 := by have := X.L0; omega
  have hd1 : ¬ 65536 < deep := by have := X.d1; omega
  have hgl : g < w.heap.size := by have := X.gG; omega
  have HGW := Lib.hid X.GW
  have HX := Lib.hid X
  rw [hmay] at HM
  obtain ⟨ne, hne⟩ : ∃ ne, ne = ([E0_, E1_] : List Ex).length := ⟨_, rfl⟩
  obtain ⟨N, hN⟩ : ∃ N, N = strOf s := ⟨_, rfl⟩
  rw [← hne, ← hN] at HM hW ⊢
  rw [← hne] at z4
  rw [← hN] at z3
  have HWQ := Lib.hid hW
  have HNE := Lib.hid hne
  have HNQ := Lib.hid hN
  have HGQ := Lib.hid hG
  clear hne hN hW hG X hmay
  obtain rfl : ne = 2 := by rw [HNE.out]; rfl
  obtain ⟨b, off, u0, rfl, hbB, r00, r01, r02, r03, r04, hk0⟩ := HX.out.kid 0 (by simp)
  have hp0 := partsL_at [E0_, E1_] 0 (by simp)
  simp only [List.getElem_cons_zero, List.getElem_cons_succ] at r00 r01 r02 r03 r04 hk0 hp0
  obtain ⟨y0, hy0⟩ : ∃ y, y = valE nms xs E0_ := ⟨_, rfl⟩
  obtain ⟨b1_, off1_, u1, hA1, hbB1, r10, r11, r12, r13, r14, hk1⟩ := HX.out.kid 1 (by simp)
  have hp1 := partsL_at [E0_, E1_] 1 (by simp)
  simp only [List.getElem_cons_zero, List.getElem_cons_succ] at r10 r11 r12 r13 r14 hk1 hp1
  obtain ⟨y1, hy1⟩ : ∃ y, y = valE nms xs E1_ := ⟨_, rfl⟩
  cases hA1
  simp only [Nat.zero_mul, Nat.one_mul, Nat.add_zero, Nat.add_assoc, Nat.reduceAdd] at r00 r01 r02 r03 r04
  have HK0 : Hid (∀ (wx : World) (l : Int), But g B W wx → VBox wx g nv iv l → (parts E0_ : Int) ≤ l → l ≤ 2147483647 → Calls Tryz.prog 20 #[.pointer (some ⟨g, 0, none⟩), .agg #[.int .i64 E0_.kind, .int .i64 E0_.pl, .int .i64 E0_.num, .string (strOf E0_.name), u0], .int .i64 (deep + 1)] wx fun e w' =>
      e = .returned (.int .i64 y0) ∧ ∃ l', l - parts E0_ ≤ l' ∧ l' < l ∧ VBox w' g nv iv l' ∧ But g B W w') := Lib.hid fun wx l hb hv hl1 hl2 => by
    rw [hy0]
    exact (hk0 l wx (HX.out.bel.trans hb.bel) hv hl1 hl2).mono fun e w' ⟨e1, l', e2, e3, e4, e5⟩ => ⟨e1, l', e2, e3, e4, hb.trans e5⟩
  rw [← hy0]
  clear hk0 hy0
  generalize E0_.kind = a0 at r00 HK0
  generalize E0_.pl = b0 at r01 HK0
  generalize E0_.num = d0 at r02 HK0
  generalize strOf E0_.name = M0 at r03 HK0
  obtain ⟨m0, hm0⟩ : ∃ m : Nat, m = parts E0_ := ⟨_, rfl⟩
  rw [← hm0] at HK0 hp0
  simp only [Nat.zero_mul, Nat.one_mul, Nat.add_zero, Nat.add_assoc, Nat.reduceAdd] at r10 r11 r12 r13 r14
  have HK1 : Hid (∀ (wx : World) (l : Int), But g B W wx → VBox wx g nv iv l → (parts E1_ : Int) ≤ l → l ≤ 2147483647 → Calls Tryz.prog 20 #[.pointer (some ⟨g, 0, none⟩), .agg #[.int .i64 E1_.kind, .int .i64 E1_.pl, .int .i64 E1_.num, .string (strOf E1_.name), u1], .int .i64 (deep + 1)] wx fun e w' =>
      e = .returned (.int .i64 y1) ∧ ∃ l', l - parts E1_ ≤ l' ∧ l' < l ∧ VBox w' g nv iv l' ∧ But g B W w') := Lib.hid fun wx l hb hv hl1 hl2 => by
    rw [hy1]
    exact (hk1 l wx (HX.out.bel.trans hb.bel) hv hl1 hl2).mono fun e w' ⟨e1, l', e2, e3, e4, e5⟩ => ⟨e1, l', e2, e3, e4, hb.trans e5⟩
  rw [← hy1]
  clear hk1 hy1
  generalize E1_.kind = a1 at r10 HK1
  generalize E1_.pl = b1 at r11 HK1
  generalize E1_.num = d1 at r12 HK1
  generalize strOf E1_.name = M1 at r13 HK1
  obtain ⟨m1, hm1⟩ : ∃ m : Nat, m = parts E1_ := ⟨_, rfl⟩
  rw [← hm1] at HK1 hp1
  have HKS : Hid (∀ X : World, But g B W X → X.cell? ⟨G, 0, none⟩ = some (.int .i64 10) ∧ X.cell? ⟨G, 3, none⟩ = some (.string N) ∧ X.cell? ⟨G, 4, none⟩ = some (.slice (some ⟨b, off, none⟩) 2 c) ∧ X.cell? ⟨b, off, none⟩ = some (.int .i64 a0) ∧ X.cell? ⟨b, off + 1, none⟩ = some (.int .i64 b0) ∧ X.cell? ⟨b, off + 2, none⟩ = some (.int .i64 d0) ∧ X.cell? ⟨b, off + 3, none⟩ = some (.string M0) ∧ X.cell? ⟨b, off + 4, none⟩ = some (u0) ∧ X.cell? ⟨b, off + 5, none⟩ = some (.int .i64 a1) ∧ X.cell? ⟨b, off + 6, none⟩ = some (.int .i64 b1) ∧ X.cell? ⟨b, off + 7, none⟩ = some (.int .i64 d1) ∧ X.cell? ⟨b, off + 8, none⟩ = some (.string M1) ∧ X.cell? ⟨b, off + 9, none⟩ = some (u1)) := Lib.hid fun X hb => by
    have hG : X.heap[G]? = W.heap[G]? := hb.blk G HGW.out (by have := HX.out.gG; omega)
    have hn : b ≠ g := by have := HX.out.Bg; omega
    have hbx := HX.out.bel.trans hb.bel
    exact ⟨(World.cell?_of_block hG).trans z0, (World.cell?_of_block hG).trans z3, (World.cell?_of_block hG).trans z4, (hbx.cell (p := ⟨b, off, none⟩) hbB).trans r00, (hbx.cell (p := ⟨b, off + 1, none⟩) hbB).trans r01, (hbx.cell (p := ⟨b, off + 2, none⟩) hbB).trans r02, (hbx.cell (p := ⟨b, off + 3, none⟩) hbB).trans r03, (hbx.cell (p := ⟨b, off + 4, none⟩) hbB).trans r04, (hbx.cell (p := ⟨b, off + 5, none⟩) hbB).trans r10, (hbx.cell (p := ⟨b, off + 6, none⟩) hbB).trans r11, (hbx.cell (p := ⟨b, off + 7, none⟩) hbB).trans r12, (hbx.cell (p := ⟨b, off + 8, none⟩) hbB).trans r13, (hbx.cell (p := ⟨b, off + 9, none⟩) hbB).trans r14⟩
  have HO : Hid (∀ wx, Calls Tryz.prog 38 #[.string N, .agg #[.int .i64 y0, .int .i64 y1]] wx fun e w' => e = .returned (.int .i64 (opV s y0 y1)) ∧ Below wx.heap.size wx w') := Lib.hid fun wx => by
    rw [HNQ.out]
    exact operated_any s hsg y0 y1 wx
  have hwd : IntKind.i64.wrap (deep + 1) = deep + 1 := IntWalk.i64_in _ ⟨by have := HX.out.d0; omega, by have := HX.out.d1; omega⟩
  have HW0 : B ≤ W.heap.size := by have := HX.out.gG; have := HX.out.GW; have := HX.out.Bg; omega
  have hpp : (m0 : Int) + (m1 : Int) = partsL [E0_, E1_] := by rw [hm0, hm1]; simp only [partsL]; omega
  have hL2 : L ≤ 2147483646 := HX.out.L1
  have hL3 : (m0 : Int) + (m1 : Int) ≤ L := by have := HX.out.L0; omega
  generalize hpq : (partsL [E0_, E1_] : Int) = pq at hpp ⊢
  have HBW := Lib.hid HW0
  clear r00 r01 r02 r03 r04 r10 r11 r12 r13 r14 HW0 hm0 hm1 hp0 hp1 hsg
  go_enter Tryz.func20, Tryz.ntmps20
  go_upto_region 2 with fail
  rw [← HWQ.out, ← HGQ.out]
  go_wp2_with (first
    | ((with_reducible refine (HM.out _).mono ?_); rintro e w1 ⟨rfl, hb1⟩; have HB1 : Hid (But g B W w1) := Lib.hid ((But.refl g B W).box hb1 HBW.out); have HV1 := Lib.hid (HX.out.v.below hb1); obtain ⟨q0, q3, q4, k0, k1, k2, k3, k4, l0, l1, l2, l3, l4⟩ := HKS.out _ HB1.out; clear hb1))
  have HB1D : Hid (But g B W w1.drew) := Lib.hid (HB1.out.trans (But.of_below (Below.refl _ _).drew (Nat.le_trans HBW.out HB1.out.size)))
  have HV1D : Hid (VBox w1.drew g nv iv L) := HV1
  refine wp_region_held_drew (S := fun X => X.cell? ⟨G, 0, none⟩ = some (.int .i64 10) ∧ X.cell? ⟨G, 3, none⟩ = some (.string N) ∧ X.cell? ⟨G, 4, none⟩ = some (.slice (some ⟨b, off, none⟩) 2 c) ∧ X.cell? ⟨b, off, none⟩ = some (.int .i64 a0) ∧ X.cell? ⟨b, off + 1, none⟩ = some (.int .i64 b0) ∧ X.cell? ⟨b, off + 2, none⟩ = some (.int .i64 d0) ∧ X.cell? ⟨b, off + 3, none⟩ = some (.string M0) ∧ X.cell? ⟨b, off + 4, none⟩ = some (u0) ∧ X.cell? ⟨b, off + 5, none⟩ = some (.int .i64 a1) ∧ X.cell? ⟨b, off + 6, none⟩ = some (.int .i64 b1) ∧ X.cell? ⟨b, off + 7, none⟩ = some (.int .i64 d1) ∧ X.cell? ⟨b, off + 8, none⟩ = some (.string M1) ∧ X.cell? ⟨b, off + 9, none⟩ = some (u1)) (by kernel_rfl) (HKS.out _ HB1D.out) (fun hHeld => ?_)
  clear q0 q3 q4 k0 k1 k2 k3 k4 l0 l1 l2 l3 l4
  refine take_at (i := 0) (oi := _) (v := .pointer (some ⟨G, 3, none⟩)) rfl rfl (by kernel_rfl) (by kernel_rfl) (by kernel_rfl) (fun _ _ _ h => h) (Or.inl ⟨by rfl, fun W hS => ?_⟩) hHeld ?_
  · obtain ⟨s0_, s1_, s2_, s3_, s4_, s5_, s6_, s7_, s8_, s9_, s10_, s11_, s12_⟩ := hS; go_simp
  simp only [List.setIfInBounds_toArray, List.set_cons_zero, List.set_cons_succ]
  refine take_at (i := 1) (oi := _) (v := .string N) rfl rfl (by kernel_rfl) (by kernel_rfl) (by kernel_rfl) (fun _ _ _ h => h) (Or.inl ⟨by rfl, fun W hS => ?_⟩) hHeld ?_
  · obtain ⟨s0_, s1_, s2_, s3_, s4_, s5_, s6_, s7_, s8_, s9_, s10_, s11_, s12_⟩ := hS; go_simp
  simp only [List.setIfInBounds_toArray, List.set_cons_zero, List.set_cons_succ]
  refine take_at (i := 2) (oi := _) (v := .pointer (some ⟨g, 0, none⟩)) rfl rfl (by kernel_rfl) (by kernel_rfl) (by kernel_rfl) (fun _ _ _ h => h) (Or.inl ⟨by rfl, fun W hS => ?_⟩) hHeld ?_
  · obtain ⟨s0_, s1_, s2_, s3_, s4_, s5_, s6_, s7_, s8_, s9_, s10_, s11_, s12_⟩ := hS; go_simp
  simp only [List.setIfInBounds_toArray, List.set_cons_zero, List.set_cons_succ]
  refine take_at (i := 3) (oi := _) (v := .pointer (some ⟨G, 4, none⟩)) rfl rfl (by kernel_rfl) (by kernel_rfl) (by kernel_rfl) (fun _ _ _ h => h) (Or.inl ⟨by rfl, fun W hS => ?_⟩) hHeld ?_
  · obtain ⟨s0_, s1_, s2_, s3_, s4_, s5_, s6_, s7_, s8_, s9_, s10_, s11_, s12_⟩ := hS; go_simp
  simp only [List.setIfInBounds_toArray, List.set_cons_zero, List.set_cons_succ]
  refine take_at (i := 4) (oi := _) (v := .slice (some ⟨b, off, none⟩) 2 c) rfl rfl (by kernel_rfl) (by kernel_rfl) (by kernel_rfl) (fun _ _ _ h => h) (Or.inl ⟨by rfl, fun W hS => ?_⟩) hHeld ?_
  · obtain ⟨s0_, s1_, s2_, s3_, s4_, s5_, s6_, s7_, s8_, s9_, s10_, s11_, s12_⟩ := hS; go_simp
  simp only [List.setIfInBounds_toArray, List.set_cons_zero, List.set_cons_succ]
  refine take_at (i := 5) (oi := _) (v := .pointer (some ⟨b, off, none⟩)) rfl rfl (by kernel_rfl) (by kernel_rfl) (by kernel_rfl) (fun _ _ _ h => h) (Or.inl ⟨by rfl, fun W hS => ?_⟩) hHeld ?_
  · obtain ⟨s0_, s1_, s2_, s3_, s4_, s5_, s6_, s7_, s8_, s9_, s10_, s11_, s12_⟩ := hS; go_simp
  simp only [List.setIfInBounds_toArray, List.set_cons_zero, List.set_cons_succ]
  refine take_at (i := 6) (oi := _) (v := .agg #[.int .i64 a0, .int .i64 b0, .int .i64 d0, .string M0, u0]) rfl rfl (by kernel_rfl) (by kernel_rfl) (by kernel_rfl) (fun _ _ _ h => h) (Or.inl ⟨by rfl, fun W hS => ?_⟩) hHeld ?_
  · obtain ⟨s0_, s1_, s2_, s3_, s4_, s5_, s6_, s7_, s8_, s9_, s10_, s11_, s12_⟩ := hS; go_simp
  simp only [List.setIfInBounds_toArray, List.set_cons_zero, List.set_cons_succ]
  refine take_at (i := 7) (oi := _) (v := .int .i64 deep) rfl rfl (by kernel_rfl) (by kernel_rfl) (by kernel_rfl) (fun _ _ _ h => h) (Or.inl ⟨by rfl, fun W hS => ?_⟩) hHeld ?_
  · obtain ⟨s0_, s1_, s2_, s3_, s4_, s5_, s6_, s7_, s8_, s9_, s10_, s11_, s12_⟩ := hS; go_simp
  simp only [List.setIfInBounds_toArray, List.set_cons_zero, List.set_cons_succ]
  refine take_at (i := 8) (oi := _) (v := .int .i64 (deep + 1)) rfl rfl (by kernel_rfl) (by kernel_rfl) (by kernel_rfl) (fun _ _ _ h => h) (Or.inl ⟨by rfl, fun W hS => ?_⟩) hHeld ?_
  · obtain ⟨s0_, s1_, s2_, s3_, s4_, s5_, s6_, s7_, s8_, s9_, s10_, s11_, s12_⟩ := hS; go_simp
  simp only [List.setIfInBounds_toArray, List.set_cons_zero, List.set_cons_succ]
  refine take_at (i := 10) (oi := _) (v := .pointer (some ⟨g, 0, none⟩)) rfl rfl (by kernel_rfl) (by kernel_rfl) (by kernel_rfl) (fun _ _ _ h => h) (Or.inl ⟨by rfl, fun W hS => ?_⟩) hHeld ?_
  · obtain ⟨s0_, s1_, s2_, s3_, s4_, s5_, s6_, s7_, s8_, s9_, s10_, s11_, s12_⟩ := hS; go_simp
  simp only [List.setIfInBounds_toArray, List.set_cons_zero, List.set_cons_succ]
  refine take_at (i := 11) (oi := _) (v := .pointer (some ⟨G, 4, none⟩)) rfl rfl (by kernel_rfl) (by kernel_rfl) (by kernel_rfl) (fun _ _ _ h => h) (Or.inl ⟨by rfl, fun W hS => ?_⟩) hHeld ?_
  · obtain ⟨s0_, s1_, s2_, s3_, s4_, s5_, s6_, s7_, s8_, s9_, s10_, s11_, s12_⟩ := hS; go_simp
  simp only [List.setIfInBounds_toArray, List.set_cons_zero, List.set_cons_succ]
  refine take_at (i := 12) (oi := _) (v := .slice (some ⟨b, off, none⟩) 2 c) rfl rfl (by kernel_rfl) (by kernel_rfl) (by kernel_rfl) (fun _ _ _ h => h) (Or.inl ⟨by rfl, fun W hS => ?_⟩) hHeld ?_
  · obtain ⟨s0_, s1_, s2_, s3_, s4_, s5_, s6_, s7_, s8_, s9_, s10_, s11_, s12_⟩ := hS; go_simp
  simp only [List.setIfInBounds_toArray, List.set_cons_zero, List.set_cons_succ]
  refine take_at (i := 13) (oi := _) (v := .pointer (some ⟨b, off + 5, none⟩)) rfl rfl (by kernel_rfl) (by kernel_rfl) (by kernel_rfl) (fun _ _ _ h => h) (Or.inl ⟨by rfl, fun W hS => ?_⟩) hHeld ?_
  · obtain ⟨s0_, s1_, s2_, s3_, s4_, s5_, s6_, s7_, s8_, s9_, s10_, s11_, s12_⟩ := hS; go_simp
  simp only [List.setIfInBounds_toArray, List.set_cons_zero, List.set_cons_succ]
  refine take_at (i := 14) (oi := _) (v := .agg #[.int .i64 a1, .int .i64 b1, .int .i64 d1, .string M1, u1]) rfl rfl (by kernel_rfl) (by kernel_rfl) (by kernel_rfl) (fun _ _ _ h => h) (Or.inl ⟨by rfl, fun W hS => ?_⟩) hHeld ?_
  · obtain ⟨s0_, s1_, s2_, s3_, s4_, s5_, s6_, s7_, s8_, s9_, s10_, s11_, s12_⟩ := hS; go_simp
  simp only [List.setIfInBounds_toArray, List.set_cons_zero, List.set_cons_succ]
  refine take_at (i := 15) (oi := _) (v := .int .i64 deep) rfl rfl (by kernel_rfl) (by kernel_rfl) (by kernel_rfl) (fun _ _ _ h => h) (Or.inl ⟨by rfl, fun W hS => ?_⟩) hHeld ?_
  · obtain ⟨s0_, s1_, s2_, s3_, s4_, s5_, s6_, s7_, s8_, s9_, s10_, s11_, s12_⟩ := hS; go_simp
  simp only [List.setIfInBounds_toArray, List.set_cons_zero, List.set_cons_succ]
  refine take_at (i := 16) (oi := _) (v := .int .i64 (deep + 1)) rfl rfl (by kernel_rfl) (by kernel_rfl) (by kernel_rfl) (fun _ _ _ h => h) (Or.inl ⟨by rfl, fun W hS => ?_⟩) hHeld ?_
  · obtain ⟨s0_, s1_, s2_, s3_, s4_, s5_, s6_, s7_, s8_, s9_, s10_, s11_, s12_⟩ := hS; go_simp
  simp only [List.setIfInBounds_toArray, List.set_cons_zero, List.set_cons_succ]
  refine wpAnyH_ready (rs := [9]) (by kernel_rfl) (by simp) ?_
  refine AllReadyH.cons rfl (fun K hK => ?_) AllReadyH.nil
  go_simp
  refine (HK0.out _ _ HB1D.out HV1D.out (by omega) (by omega)).mono ?_
  rintro e w2 ⟨rfl, l1, hl1, hl2, hv2, hb2⟩
  have HB2 := Lib.hid hb2
  have HV2 := Lib.hid hv2
  clear hb2 hv2 hHeld
  go_wp2_with fail
  refine hK.out _ _ (HKS.out _ HB2.out) (fun hHeld => ?_)
  clear hK K
  try simp only [Act.put, List.setIfInBounds_toArray, List.set_cons_zero, List.set_cons_succ]
  refine wpAnyH_ready (rs := [17]) (by kernel_rfl) (by simp) ?_
  refine AllReadyH.cons rfl (fun K hK => ?_) AllReadyH.nil
  go_simp
  refine (HK1.out _ _ HB2.out HV2.out (by omega) (by omega)).mono ?_
  rintro e w3 ⟨rfl, l2, hl3, hl4, hv3, hb3⟩
  have HB3 := Lib.hid hb3
  have HV3 := Lib.hid hv3
  clear hb3 hv3 hHeld
  go_wp2_with fail
  refine hK.out _ _ (HKS.out _ HB3.out) (fun hHeld => ?_)
  clear hK K
  try simp only [Act.put, List.setIfInBounds_toArray, List.set_cons_zero, List.set_cons_succ]
  refine take_at (i := 18) (oi := _) (v := .agg #[.int .i64 y0, .int .i64 y1]) rfl rfl (by kernel_rfl) (by kernel_rfl) (by kernel_rfl) (fun _ _ _ h => h) (Or.inl ⟨by rfl, fun W hS => ?_⟩) hHeld ?_
  · obtain ⟨s0_, s1_, s2_, s3_, s4_, s5_, s6_, s7_, s8_, s9_, s10_, s11_, s12_⟩ := hS; go_simp
  simp only [List.setIfInBounds_toArray, List.set_cons_zero, List.set_cons_succ]
  refine wpAnyH_ready (rs := [19]) (by kernel_rfl) (by simp) ?_
  refine AllReadyH.cons rfl (fun K hK => ?_) AllReadyH.nil
  go_simp
  refine (HO.out _).mono ?_
  rintro e w4 ⟨rfl, hb4⟩
  have HB4 : Hid (But g B W w4) := Lib.hid (HB3.out.box hb4 (Nat.le_trans HBW.out HB3.out.size))
  have HV4 := Lib.hid (HV3.out.below hb4)
  clear hb4 hHeld
  go_wp2_with fail
  refine hK.out _ _ (HKS.out _ HB4.out) (fun hHeld => ?_)
  clear hK K
  try simp only [Act.put, List.setIfInBounds_toArray, List.set_cons_zero, List.set_cons_succ]
  refine take_at (i := 20) (oi := _) (v := .int .i64 (opV s y0 y1)) rfl rfl (by kernel_rfl) (by kernel_rfl) (by kernel_rfl) (fun _ _ _ h => h) (Or.inl ⟨by rfl, fun W hS => ?_⟩) hHeld ?_
  · obtain ⟨s0_, s1_, s2_, s3_, s4_, s5_, s6_, s7_, s8_, s9_, s10_, s11_, s12_⟩ := hS; go_simp
  simp only [List.setIfInBounds_toArray, List.set_cons_zero, List.set_cons_succ]
  refine wpAnyH_done (by kernel_rfl) ?_ _
  go_wp2
  go_ret
  exact ⟨rfl, l2, by omega, by omega, HV4.out, HB4.out⟩

end Go.Proofs.YtadkimnpeachpaaGreatDoor
