/- Layer 8: a walk of (*valuer).expr. -/
import Derived.Test.YtadkimnpeachpaaGreatDoorPvf
set_option linter.unusedVariables false
set_option linter.unusedSimpArgs false
namespace Go.Proofs.YtadkimnpeachpaaGreatDoor
open Go.RowKit

set_option maxRecDepth 100000 in
set_option maxHeartbeats 2000000 in
theorem expr_9 {w0 : World} {B : Nat} {nms : List (List UInt8)} {xs : List Int} {nv iv : Value} {E0_ : Ex} {A : Option Addr} {c : Nat} {p n deep L left : Int} {s : List UInt8} {g G : Nat} {w W : World} (X : VF w0 B nms xs nv iv [E0_] A c (9) p n deep L s g G W) (hG : G = w.heap.size) (hW : W = (w.setCell ⟨g, 2, none⟩ (.int .i64 L)).alloc (.cells #[.int .i64 9, .int .i64 p, .int .i64 n, .string (strOf s), .slice A ([E0_] : List Ex).length c] 24))
    (c2 : w.cell? ⟨g, 2, none⟩ = some (.int .i64 left)) (f2 : w.frozen? ⟨g, 2, none⟩ = false) (hwl : IntKind.i64.wrap (left - 1) = L) (hmay : mayB 9 s = true) :
    Calls Tryz.prog 20 #[.pointer (some ⟨g, 0, none⟩), .agg #[.int .i64 9, .int .i64 p, .int .i64 n, .string (strOf s), .slice A ([E0_] : List Ex).length c], .int .i64 deep] w fun e w' => e = .returned (.int .i64 (wrap64 (0 - valE nms xs E0_))) ∧ ∃ l', L - (partsL [E0_] : Int) ≤ l' ∧ l' ≤ L ∧ VBox w' g nv iv l' ∧ But g B W w' := by
  have HM := Lib.hid X.may
  obtain ⟨z0, z1, z2, z3, z4⟩ := X.z (w' := W) rfl
  obtain ⟨v0, v1, v2⟩ := X.v.cells
  have hL0 : ¬ L < 0 := by have := X.L0; omega
  have hd1 : ¬ 65536 < deep := by have := X.d1; omega
  have hgl : g < w.heap.size := by have := X.gG; omega
  have HGW := Lib.hid X.GW
  have HX := Lib.hid X
  rw [hmay] at HM
  obtain ⟨ne, hne⟩ : ∃ ne, ne = ([E0_] : List Ex).length := ⟨_, rfl⟩
  obtain ⟨N, hN⟩ : ∃ N, N = strOf s := ⟨_, rfl⟩
  rw [← hne, ← hN] at HM hW ⊢
  rw [← hne] at z4
  rw [← hN] at z3
  have HWQ := Lib.hid hW
  have HNE := Lib.hid hne
  have HNQ := Lib.hid hN
  have HGQ := Lib.hid hG
  clear hne hN hW hG X hmay
  obtain rfl : ne = 1 := by rw [HNE.out]; rfl
  obtain ⟨b, off, u0, rfl, hbB, r00, r01, r02, r03, r04, hk0⟩ := HX.out.kid 0 (by simp)
  have hp0 := partsL_at [E0_] 0 (by simp)
  simp only [List.getElem_cons_zero, List.getElem_cons_succ] at r00 r01 r02 r03 r04 hk0 hp0
  obtain ⟨y0, hy0⟩ : ∃ y, y = valE nms xs E0_ := ⟨_, rfl⟩
  simp only [Nat.zero_mul, Nat.one_mul, Nat.add_zero, Nat.add_assoc, Nat.reduceAdd] at r00 r01 r02 r03 r04
  have HK0 : Hid (∀ (wx : World) (l : Int), But g B W wx → VBox wx g nv iv l → (parts E0_ : Int) ≤ l → l ≤ 2147483647 → Calls Tryz.prog 20 #[.pointer (some ⟨g, 0, none⟩), .agg #[.int .i64 E0_.kind, .int .i64 E0_.pl, .int .i64 E0_.num, .string (strOf E0_.name), u0], .int .i64 (deep + 1)] wx fun e w' =>
      e = .returned (.int .i64 y0) ∧ ∃ l', l - parts E0_ ≤ l' ∧ l' < l ∧ VBox w' g nv iv l' ∧ But g B W w') := Lib.hid fun wx l hb hv hl1 hl2 => by
    rw [hy0]
    exact (hk0 l wx (HX.out.bel.trans hb.bel) hv hl1 hl2).mono fun e w' ⟨e1, l', e2, e3, e4, e5⟩ => ⟨e1, l', e2, e3, e4, hb.trans e5⟩
  rw [← hy0]
  clear hk0 hy0
  generalize E0_.kind = a0 at r00 HK0
  generalize E0_.pl = b0 at r01 HK0
  generalize E0_.num = d0 at r02 HK0
  generalize strOf E0_.name = M0 at r03 HK0
  obtain ⟨m0, hm0⟩ : ∃ m : Nat, m = parts E0_ := ⟨_, rfl⟩
  rw [← hm0] at HK0 hp0
  have HKS : Hid (∀ X : World, But g B W X → X.cell? ⟨G, 0, none⟩ = some (.int .i64 9) ∧ X.cell? ⟨G, 3, none⟩ = some (.string N) ∧ X.cell? ⟨G, 4, none⟩ = some (.slice (some ⟨b, off, none⟩) 1 c) ∧ X.cell? ⟨b, off, none⟩ = some (.int .i64 a0) ∧ X.cell? ⟨b, off + 1, none⟩ = some (.int .i64 b0) ∧ X.cell? ⟨b, off + 2, none⟩ = some (.int .i64 d0) ∧ X.cell? ⟨b, off + 3, none⟩ = some (.string M0) ∧ X.cell? ⟨b, off + 4, none⟩ = some (u0)) := Lib.hid fun X hb => by
    have hG : X.heap[G]? = W.heap[G]? := hb.blk G HGW.out (by have := HX.out.gG; omega)
    have hn : b ≠ g := by have := HX.out.Bg; omega
    have hbx := HX.out.bel.trans hb.bel
    exact ⟨(World.cell?_of_block hG).trans z0, (World.cell?_of_block hG).trans z3, (World.cell?_of_block hG).trans z4, (hbx.cell (p := ⟨b, off, none⟩) hbB).trans r00, (hbx.cell (p := ⟨b, off + 1, none⟩) hbB).trans r01, (hbx.cell (p := ⟨b, off + 2, none⟩) hbB).trans r02, (hbx.cell (p := ⟨b, off + 3, none⟩) hbB).trans r03, (hbx.cell (p := ⟨b, off + 4, none⟩) hbB).trans r04⟩
  have HO : Hid (∀ wx, Calls Tryz.prog 38 #[.string ⟨#[45]⟩, .agg #[.int .i64 0, .int .i64 y0]] wx fun e w' => e = .returned (.int .i64 (wrap64 (0 - y0))) ∧ Below wx.heap.size wx w') := Lib.hid fun wx => operated_any [45] (by simp) 0 y0 wx
  have hwd : IntKind.i64.wrap (deep + 1) = deep + 1 := IntWalk.i64_in _ ⟨by have := HX.out.d0; omega, by have := HX.out.d1; omega⟩
  have HW0 : B ≤ W.heap.size := by have := HX.out.gG; have := HX.out.GW; have := HX.out.Bg; omega
  have hm1 : (m0 : Int) ≤ L := by have := HX.out.L0; omega
  have hL2 : L ≤ 2147483647 := by have := HX.out.L1; omega
  have HBW := Lib.hid HW0
  clear r00 r01 r02 r03 r04 HW0
  go_enter Tryz.func20, Tryz.ntmps20
  go_upto_region 2 with fail
  rw [← HWQ.out, ← HGQ.out]
  go_wp2_with (first
    | ((with_reducible refine (HM.out _).mono ?_); rintro e w1 ⟨rfl, hb1⟩; have HB1 : Hid (But g B W w1) := Lib.hid ((But.refl g B W).box hb1 HBW.out); have HV1 := Lib.hid (HX.out.v.below hb1); obtain ⟨q0, q3, q4, k0, k1, k2, k3, k4⟩ := HKS.out _ HB1.out; clear hb1)
    | ((with_reducible refine (HK0.out _ _ HB1.out HV1.out hm1 hL2).mono ?_); rintro e w2 ⟨rfl, l', hl1, hl2, hv2, hb2⟩; have HV2 := Lib.hid hv2; have HB2 := Lib.hid hb2; clear hv2 hb2)
    | ((with_reducible refine (HO.out _).mono ?_); rintro e w3 ⟨rfl, hb3⟩; have HB3 := Lib.hid hb3; clear hb3))
  go_ret
  exact ⟨by rw [show (0 : Int) - y0 = -y0 from by omega]; rfl, l', by omega, by omega, HV2.out.below HB3.out, HB2.out.box HB3.out (Nat.le_trans HBW.out HB2.out.size)⟩

end Go.Proofs.YtadkimnpeachpaaGreatDoor
