/- Kqd -/
import Derived.Test.YtodociiaobjfgaaGreatDoorVd0
set_option linter.unusedVariables false
set_option linter.unusedSimpArgs false
namespace Go.Proofs.YtodociiaobjfgaaGreatDoor
open Go.RowKit
set_option maxHeartbeats 40000000 in
set_option maxRecDepth 100000 in
theorem tk_10 {w X : World} {g : Nat} {p : Int} {SN ST : ByteArray} {A A2 A3 : Option Addr} {c m2 m3 nb nl : Nat} {bz : Bool} {nm ty : List UInt8} {B1 B2 TY T : List (List UInt8)} {xs : List (List (List UInt8))} {nx : Nat} (F : TkF w X g 10 p SN ST A A2 A3 c m2 m3 nx nb nl true bz nm ty xs B1 B2 TY T) (hnx4 : nx ≤ 4) (hT : [[99, 97, 108, 108]] ++ ([nm, [40]] ++ (commas xs ++ ([[41]] ++ ([[59]] ++ [])))) = T) :
  Calls Tryz.prog 50 #[.agg #[.int .i64 10, .int .i64 p, .string SN, .string ST, .slice A nx c, .slice A2 nb m2, .slice A3 nl m3]] w fun e w' => ∃ g' N c, e = .returned (.slice (some ⟨g', 0, none⟩) N c) ∧ Out w w' g g' N c T ∧ T ≠ [] := by
 obtain ⟨HX, HG, HGL, HC, HTK, HTY, HB1, HB2, HEND, HSN, HST, HNX, HTL, HT0, hse, hsz⟩ := F
 have HE := lh hT
 clear hT
 go_enter Tryz.func50, Tryz.ntmps50
 go_upto_region 1 with fail
 rw [← HG.out, ← HX.out]
 obtain ⟨c0, c2, c3, c4, c5, c6⟩ := HC.out X (Below.refl _ _)
 have hgl := HGL.out
 go_upto_region 3 with fail
 obtain ⟨V, hV⟩ : ∃ V : World, V = X.alloc (.cells #[.string ⟨#[]⟩, .string ⟨#[118, 97, 114]⟩, .string ⟨#[115, 101, 116]⟩, .string ⟨#[105, 102]⟩, .string ⟨#[119, 104, 105, 108, 101]⟩, .string ⟨#[108, 111, 99, 107]⟩, .string ⟨#[117, 110, 108, 111, 99, 107]⟩, .string ⟨#[115, 101, 110, 100]⟩, .string ⟨#[114, 101, 99, 118]⟩, .string ⟨#[111, 117, 116]⟩, .string ⟨#[99, 97, 108, 108]⟩, .string ⟨#[114, 101, 116, 117, 114, 110]⟩] 98) := ⟨_, rfl⟩
 have hsz : V.heap.size = X.heap.size + 1 := by rw [hV]; simp
 rw [← hV, ← hsz]
 have hbV : Below X.heap.size X V := by rw [hV]; exact (Below.refl _ _).alloc (Nat.le_refl _) _
 have HBV := lh hbV
 clear hV hbV hgl hsz c0 c2 c3 c4 c5 c6
 have HO := lh (Out.lit (V := V) (w := V) (base := V.heap.size) #[.string ⟨#[99, 97, 108, 108]⟩] [[99, 97, 108, 108]] 1 rfl rfl (Nat.le_refl _) (by simp) (Below.refl _ _))
 have HUP : Hid (∀ W, Below V.heap.size V W → Below X.heap.size X W) := lh fun W hW => HBV.out.trans (hW.mono HBV.out.size)
 have HC2 : Hid (∀ W : World, Below V.heap.size V W → W.cell? ⟨g, 0, none⟩ = some (.int .i64 10) ∧ W.cell? ⟨g, 2, none⟩ = some (.string SN) ∧ W.cell? ⟨g, 3, none⟩ = some (.string ST) ∧ W.cell? ⟨g, 4, none⟩ = some (.slice A nx c) ∧ W.cell? ⟨g, 5, none⟩ = some (.slice A2 nb m2) ∧ W.cell? ⟨g, 6, none⟩ = some (.slice A3 nl m3) ∧ (True ∧ True ∧ True ∧ True ∧ True) ∧ (True ∧ True ∧ True ∧ True ∧ True)) := lh fun W hW => by
  obtain ⟨a0, a2, a3, a4, a5, a6⟩ := HC.out W (HUP.out W hW)
  refine ⟨a0, a2, a3, a4, a5, a6, ?_, ?_⟩
  · exact ⟨trivial, trivial, trivial, trivial, trivial⟩
  · exact ⟨trivial, trivial, trivial, trivial, trivial⟩
 clear HTY HB1 HB2
 obtain ⟨c0, c2, c3, c4, c5, c6, ⟨d0, d1, d2, d3, d4⟩, ⟨e0, e1, e2, e3, e4⟩⟩ := HC2.out _ HO.out.bel
 go_wp2_with (first | (at_builtin; refine Xax rfl _ _ rfl HO.out HTL.out rfl HE.out (by first | rfl | (rw [HSN.out]; rfl) | (rw [HST.out]; rfl) | (rw [HSN.out, HST.out]; rfl)) (by rfl) (by decide) (by simp) rfl ?_; intro g1 N1 c1 w1 L1 ho1 he1; replace HO := lh ho1; replace HE := lh he1; clear ho1 he1; obtain ⟨c0, c2, c3, c4, c5, c6, ⟨d0, d1, d2, d3, d4⟩, ⟨e0, e1, e2, e3, e4⟩⟩ := HC2.out w1 HO.out.bel))
 go_loopw [4, 5] (fun o i wr => ∃ (j gi Ni ci : Nat) (L : List (List UInt8)), j ≤ nx ∧ i = .int .i64 j ∧ o = .slice (some ⟨gi, 0, none⟩) Ni ci ∧ Hid (Out V wr V.heap.size gi Ni ci L) ∧ Hid (L ++ (cmR xs j ++ ([[41]] ++ ([[59]] ++ []))) = T)) (fun _ i _ => nx - (intOf i).toNat)
 case atStart => exact ⟨0, _, _, _, _, Nat.zero_le _, rfl, rfl, HO, lh (by have h := HE.out; simpa [cmR] using h)⟩
 case round =>
  obtain ⟨wo, rfl⟩ : ∃ wo : World, wo = wr := ⟨_, rfl⟩
  clear HO HE
  obtain ⟨j, gi, Ni, ci, L, hj, rfl, rfl, HO, HE⟩ := hrel
  obtain ⟨c0, c2, c3, c4, c5, c6, ⟨d0, d1, d2, d3, d4⟩, ⟨e0, e1, e2, e3, e4⟩⟩ := HC2.out wo HO.out.bel
  by_cases hlt : j < nx
  · have hjx : j < xs.length := by rw [← HNX.out]; exact hlt
    obtain ⟨b, off, yk, yp, yn, ys, yv, hA, hcl, htk⟩ := HTK.out j hjx
    subst hA
    obtain ⟨r0, r1, r2, r3, r4⟩ := hcl wo (HUP.out _ HO.out.bel)
    have hdr := List.drop_eq_getElem_cons hjx
    obtain ⟨XJ, hXJ⟩ : ∃ x, x = xs[j] := ⟨_, rfl⟩
    rw [← hXJ] at htk hdr
    have HXT := lh htk
    have HCL := lh hcl
    have hwj : IntKind.i64.wrap ((j : Int) + 1) = (j : Int) + 1 := IntWalk.i64_in _ ⟨by omega, by omega⟩
    clear hcl htk hXJ hjx HTK
    by_cases hj0 : j = 0
    · subst hj0
      simp only [Nat.zero_mul, Nat.add_zero] at r0 r1 r2 r3 r4
      replace HE : Hid (L ++ (XJ ++ (cmR xs (0 + 1) ++ ([[41]] ++ ([[59]] ++ [])))) = T) := lh (by have h := HE.out; rw [List.drop_zero] at hdr; unfold cmR at h ⊢; rw [if_pos rfl, hdr, Xhb] at h; rw [if_neg (by omega)]; simpa using h)
      clear hdr
      go_wp2_with (first
       | (at_builtin; refine Xax rfl _ _ rfl HO.out HTL.out rfl HE.out (by first | rfl | (rw [HSN.out]; rfl) | (rw [HST.out]; rfl) | (rw [HSN.out, HST.out]; rfl)) (by rfl) (by decide) (by simp) rfl ?_; intro g1 N1 c1 w1 L1 ho1 he1; replace HO := lh ho1; replace HE := lh he1; clear ho1 he1; obtain ⟨c0, c2, c3, c4, c5, c6, ⟨d0, d1, d2, d3, d4⟩, ⟨e0, e1, e2, e3, e4⟩⟩ := HC2.out w1 HO.out.bel)
       | (at_builtin; refine Xbq rfl _ _ rfl HO.out HTL.out rfl HE.out HU.out HUN.out rfl ?_; intro g1 N1 c1 w1 L1 ho1 he1; replace HO := lh ho1; replace HE := lh he1; clear ho1 he1; obtain ⟨c0, c2, c3, c4, c5, c6, ⟨d0, d1, d2, d3, d4⟩, ⟨e0, e1, e2, e3, e4⟩⟩ := HC2.out w1 HO.out.bel; clear HU HUN)
       | ((with_reducible refine (HXT.out _ (HUP.out _ HO.out.bel)).mono ?_); rintro e w1 ⟨gu, nu, cu, rfl, hu, hun⟩; have hb1 := hu.bel; replace HO := lh (HO.out.call hb1); have HU := lh hu; have HUN := lh hun; clear hu hun hb1; obtain ⟨c0, c2, c3, c4, c5, c6, ⟨d0, d1, d2, d3, d4⟩, ⟨e0, e1, e2, e3, e4⟩⟩ := HC2.out w1 HO.out.bel))
      go_roundw
      case rel => exact ⟨0 + 1, _, _, _, _, by omega, by go_num, rfl, HO, HE⟩
      case measure => simp [intOf]; omega
    · have hjp : 0 < j := by omega
      have hd : decide (0 < j) = true := by simpa using hjp
      replace HE : Hid (L ++ ([[44]] ++ (XJ ++ (cmR xs (j + 1) ++ ([[41]] ++ ([[59]] ++ []))))) = T) := lh (by have h := HE.out; unfold cmR at h ⊢; rw [if_neg hj0, hdr] at h; rw [if_neg (by omega)]; simpa using h)
      clear hdr
      go_wp2_with (first
       | (at_builtin; refine Xax rfl _ _ rfl HO.out HTL.out rfl HE.out (by first | rfl | (rw [HSN.out]; rfl) | (rw [HST.out]; rfl) | (rw [HSN.out, HST.out]; rfl)) (by rfl) (by decide) (by simp) rfl ?_; intro g1 N1 c1 w1 L1 ho1 he1; replace HO := lh ho1; replace HE := lh he1; clear ho1 he1; obtain ⟨c0, c2, c3, c4, c5, c6, ⟨d0, d1, d2, d3, d4⟩, ⟨e0, e1, e2, e3, e4⟩⟩ := HC2.out w1 HO.out.bel; obtain ⟨r0, r1, r2, r3, r4⟩ := HCL.out w1 (HUP.out _ HO.out.bel))
       | (at_builtin; refine Xbq rfl _ _ rfl HO.out HTL.out rfl HE.out HU.out HUN.out rfl ?_; intro g1 N1 c1 w1 L1 ho1 he1; replace HO := lh ho1; replace HE := lh he1; clear ho1 he1; obtain ⟨c0, c2, c3, c4, c5, c6, ⟨d0, d1, d2, d3, d4⟩, ⟨e0, e1, e2, e3, e4⟩⟩ := HC2.out w1 HO.out.bel; clear HU HUN)
       | ((with_reducible refine (HXT.out _ (HUP.out _ HO.out.bel)).mono ?_); rintro e w1 ⟨gu, nu, cu, rfl, hu, hun⟩; have hb1 := hu.bel; replace HO := lh (HO.out.call hb1); have HU := lh hu; have HUN := lh hun; clear hu hun hb1; obtain ⟨c0, c2, c3, c4, c5, c6, ⟨d0, d1, d2, d3, d4⟩, ⟨e0, e1, e2, e3, e4⟩⟩ := HC2.out w1 HO.out.bel))
      go_roundw
      case rel => exact ⟨j + 1, _, _, _, _, by omega, by go_num, rfl, HO, HE⟩
      case measure => simp [intOf]; omega
  · have hje : j = nx := by omega
    have hdn : xs.drop j = [] := List.drop_of_length_le (by rw [hje, HNX.out]; exact Nat.le_refl _)
    replace HE : Hid (L ++ ([[41]] ++ ([[59]] ++ [])) = T) := lh (by
     have h := HE.out
     unfold cmR at h
     by_cases hj0 : j = 0
     · rw [if_pos hj0] at h
       rw [hj0, List.drop_zero] at hdn
       rw [hdn] at h
       simpa [commas] using h
     · rw [if_neg hj0, hdn] at h
       simpa using h)
    clear hje hdn HTK
    go_wp2_with (first | (at_builtin; refine Xax rfl _ _ rfl HO.out HTL.out rfl HE.out (by first | rfl | (rw [HSN.out]; rfl) | (rw [HST.out]; rfl) | (rw [HSN.out, HST.out]; rfl)) (by rfl) (by decide) (by simp) rfl ?_; intro g1 N1 c1 w1 L1 ho1 he1; replace HO := lh ho1; replace HE := lh he1; clear ho1 he1; obtain ⟨c0, c2, c3, c4, c5, c6, ⟨d0, d1, d2, d3, d4⟩, ⟨e0, e1, e2, e3, e4⟩⟩ := HC2.out w1 HO.out.bel))
    go_ret
    exact ⟨_, _, _, rfl, HO.out.done HE.out (HEND.out _ HBV.out) (by have := HGL.out; have := HBV.out.size; omega), HT0.out⟩
set_option maxHeartbeats 40000000 in
set_option maxRecDepth 100000 in
theorem tk_10t {w X : World} {g : Nat} {p : Int} {SN ST : ByteArray} {A A2 A3 : Option Addr} {c m2 m3 nb nl : Nat} {bz : Bool} {nm ty : List UInt8} {B1 B2 TY T : List (List UInt8)} {xs : List (List (List UInt8))} {nx : Nat} (F : TkF w X g 10 p SN ST A A2 A3 c m2 m3 nx nb nl false bz nm ty xs B1 B2 TY T) (hnx4 : nx ≤ 4) (hT : [[99, 97, 108, 108]] ++ ([ty, [61]] ++ ([nm, [40]] ++ (commas xs ++ ([[41]] ++ ([[59]] ++ []))))) = T) :
  Calls Tryz.prog 50 #[.agg #[.int .i64 10, .int .i64 p, .string SN, .string ST, .slice A nx c, .slice A2 nb m2, .slice A3 nl m3]] w fun e w' => ∃ g' N c, e = .returned (.slice (some ⟨g', 0, none⟩) N c) ∧ Out w w' g g' N c T ∧ T ≠ [] := by
 obtain ⟨HX, HG, HGL, HC, HTK, HTY, HB1, HB2, HEND, HSN, HST, HNX, HTL, HT0, hse, hsz⟩ := F
 have HE := lh hT
 clear hT
 go_enter Tryz.func50, Tryz.ntmps50
 go_upto_region 1 with fail
 rw [← HG.out, ← HX.out]
 obtain ⟨c0, c2, c3, c4, c5, c6⟩ := HC.out X (Below.refl _ _)
 have hgl := HGL.out
 go_upto_region 3 with fail
 obtain ⟨V, hV⟩ : ∃ V : World, V = X.alloc (.cells #[.string ⟨#[]⟩, .string ⟨#[118, 97, 114]⟩, .string ⟨#[115, 101, 116]⟩, .string ⟨#[105, 102]⟩, .string ⟨#[119, 104, 105, 108, 101]⟩, .string ⟨#[108, 111, 99, 107]⟩, .string ⟨#[117, 110, 108, 111, 99, 107]⟩, .string ⟨#[115, 101, 110, 100]⟩, .string ⟨#[114, 101, 99, 118]⟩, .string ⟨#[111, 117, 116]⟩, .string ⟨#[99, 97, 108, 108]⟩, .string ⟨#[114, 101, 116, 117, 114, 110]⟩] 98) := ⟨_, rfl⟩
 have hsz : V.heap.size = X.heap.size + 1 := by rw [hV]; simp
 rw [← hV, ← hsz]
 have hbV : Below X.heap.size X V := by rw [hV]; exact (Below.refl _ _).alloc (Nat.le_refl _) _
 have HBV := lh hbV
 clear hV hbV hgl hsz c0 c2 c3 c4 c5 c6
 have HO := lh (Out.lit (V := V) (w := V) (base := V.heap.size) #[.string ⟨#[99, 97, 108, 108]⟩] [[99, 97, 108, 108]] 1 rfl rfl (Nat.le_refl _) (by simp) (Below.refl _ _))
 have HUP : Hid (∀ W, Below V.heap.size V W → Below X.heap.size X W) := lh fun W hW => HBV.out.trans (hW.mono HBV.out.size)
 have HC2 : Hid (∀ W : World, Below V.heap.size V W → W.cell? ⟨g, 0, none⟩ = some (.int .i64 10) ∧ W.cell? ⟨g, 2, none⟩ = some (.string SN) ∧ W.cell? ⟨g, 3, none⟩ = some (.string ST) ∧ W.cell? ⟨g, 4, none⟩ = some (.slice A nx c) ∧ W.cell? ⟨g, 5, none⟩ = some (.slice A2 nb m2) ∧ W.cell? ⟨g, 6, none⟩ = some (.slice A3 nl m3) ∧ (True ∧ True ∧ True ∧ True ∧ True) ∧ (True ∧ True ∧ True ∧ True ∧ True)) := lh fun W hW => by
  obtain ⟨a0, a2, a3, a4, a5, a6⟩ := HC.out W (HUP.out W hW)
  refine ⟨a0, a2, a3, a4, a5, a6, ?_, ?_⟩
  · exact ⟨trivial, trivial, trivial, trivial, trivial⟩
  · exact ⟨trivial, trivial, trivial, trivial, trivial⟩
 clear HTY HB1 HB2
 obtain ⟨c0, c2, c3, c4, c5, c6, ⟨d0, d1, d2, d3, d4⟩, ⟨e0, e1, e2, e3, e4⟩⟩ := HC2.out _ HO.out.bel
 go_wp2_with (first | (at_builtin; refine Xax rfl _ _ rfl HO.out HTL.out rfl HE.out (by first | rfl | (rw [HSN.out]; rfl) | (rw [HST.out]; rfl) | (rw [HSN.out, HST.out]; rfl)) (by rfl) (by decide) (by simp) rfl ?_; intro g1 N1 c1 w1 L1 ho1 he1; replace HO := lh ho1; replace HE := lh he1; clear ho1 he1; obtain ⟨c0, c2, c3, c4, c5, c6, ⟨d0, d1, d2, d3, d4⟩, ⟨e0, e1, e2, e3, e4⟩⟩ := HC2.out w1 HO.out.bel))
 go_loopw [4, 5] (fun o i wr => ∃ (j gi Ni ci : Nat) (L : List (List UInt8)), j ≤ nx ∧ i = .int .i64 j ∧ o = .slice (some ⟨gi, 0, none⟩) Ni ci ∧ Hid (Out V wr V.heap.size gi Ni ci L) ∧ Hid (L ++ (cmR xs j ++ ([[41]] ++ ([[59]] ++ []))) = T)) (fun _ i _ => nx - (intOf i).toNat)
 case atStart => exact ⟨0, _, _, _, _, Nat.zero_le _, rfl, rfl, HO, lh (by have h := HE.out; simpa [cmR] using h)⟩
 case round =>
  obtain ⟨wo, rfl⟩ : ∃ wo : World, wo = wr := ⟨_, rfl⟩
  clear HO HE
  obtain ⟨j, gi, Ni, ci, L, hj, rfl, rfl, HO, HE⟩ := hrel
  obtain ⟨c0, c2, c3, c4, c5, c6, ⟨d0, d1, d2, d3, d4⟩, ⟨e0, e1, e2, e3, e4⟩⟩ := HC2.out wo HO.out.bel
  by_cases hlt : j < nx
  · have hjx : j < xs.length := by rw [← HNX.out]; exact hlt
    obtain ⟨b, off, yk, yp, yn, ys, yv, hA, hcl, htk⟩ := HTK.out j hjx
    subst hA
    obtain ⟨r0, r1, r2, r3, r4⟩ := hcl wo (HUP.out _ HO.out.bel)
    have hdr := List.drop_eq_getElem_cons hjx
    obtain ⟨XJ, hXJ⟩ : ∃ x, x = xs[j] := ⟨_, rfl⟩
    rw [← hXJ] at htk hdr
    have HXT := lh htk
    have HCL := lh hcl
    have hwj : IntKind.i64.wrap ((j : Int) + 1) = (j : Int) + 1 := IntWalk.i64_in _ ⟨by omega, by omega⟩
    clear hcl htk hXJ hjx HTK
    by_cases hj0 : j = 0
    · subst hj0
      simp only [Nat.zero_mul, Nat.add_zero] at r0 r1 r2 r3 r4
      replace HE : Hid (L ++ (XJ ++ (cmR xs (0 + 1) ++ ([[41]] ++ ([[59]] ++ [])))) = T) := lh (by have h := HE.out; rw [List.drop_zero] at hdr; unfold cmR at h ⊢; rw [if_pos rfl, hdr, Xhb] at h; rw [if_neg (by omega)]; simpa using h)
      clear hdr
      go_wp2_with (first
       | (at_builtin; refine Xax rfl _ _ rfl HO.out HTL.out rfl HE.out (by first | rfl | (rw [HSN.out]; rfl) | (rw [HST.out]; rfl) | (rw [HSN.out, HST.out]; rfl)) (by rfl) (by decide) (by simp) rfl ?_; intro g1 N1 c1 w1 L1 ho1 he1; replace HO := lh ho1; replace HE := lh he1; clear ho1 he1; obtain ⟨c0, c2, c3, c4, c5, c6, ⟨d0, d1, d2, d3, d4⟩, ⟨e0, e1, e2, e3, e4⟩⟩ := HC2.out w1 HO.out.bel)
       | (at_builtin; refine Xbq rfl _ _ rfl HO.out HTL.out rfl HE.out HU.out HUN.out rfl ?_; intro g1 N1 c1 w1 L1 ho1 he1; replace HO := lh ho1; replace HE := lh he1; clear ho1 he1; obtain ⟨c0, c2, c3, c4, c5, c6, ⟨d0, d1, d2, d3, d4⟩, ⟨e0, e1, e2, e3, e4⟩⟩ := HC2.out w1 HO.out.bel; clear HU HUN)
       | ((with_reducible refine (HXT.out _ (HUP.out _ HO.out.bel)).mono ?_); rintro e w1 ⟨gu, nu, cu, rfl, hu, hun⟩; have hb1 := hu.bel; replace HO := lh (HO.out.call hb1); have HU := lh hu; have HUN := lh hun; clear hu hun hb1; obtain ⟨c0, c2, c3, c4, c5, c6, ⟨d0, d1, d2, d3, d4⟩, ⟨e0, e1, e2, e3, e4⟩⟩ := HC2.out w1 HO.out.bel))
      go_roundw
      case rel => exact ⟨0 + 1, _, _, _, _, by omega, by go_num, rfl, HO, HE⟩
      case measure => simp [intOf]; omega
    · have hjp : 0 < j := by omega
      have hd : decide (0 < j) = true := by simpa using hjp
      replace HE : Hid (L ++ ([[44]] ++ (XJ ++ (cmR xs (j + 1) ++ ([[41]] ++ ([[59]] ++ []))))) = T) := lh (by have h := HE.out; unfold cmR at h ⊢; rw [if_neg hj0, hdr] at h; rw [if_neg (by omega)]; simpa using h)
      clear hdr
      go_wp2_with (first
       | (at_builtin; refine Xax rfl _ _ rfl HO.out HTL.out rfl HE.out (by first | rfl | (rw [HSN.out]; rfl) | (rw [HST.out]; rfl) | (rw [HSN.out, HST.out]; rfl)) (by rfl) (by decide) (by simp) rfl ?_; intro g1 N1 c1 w1 L1 ho1 he1; replace HO := lh ho1; replace HE := lh he1; clear ho1 he1; obtain ⟨c0, c2, c3, c4, c5, c6, ⟨d0, d1, d2, d3, d4⟩, ⟨e0, e1, e2, e3, e4⟩⟩ := HC2.out w1 HO.out.bel; obtain ⟨r0, r1, r2, r3, r4⟩ := HCL.out w1 (HUP.out _ HO.out.bel))
       | (at_builtin; refine Xbq rfl _ _ rfl HO.out HTL.out rfl HE.out HU.out HUN.out rfl ?_; intro g1 N1 c1 w1 L1 ho1 he1; replace HO := lh ho1; replace HE := lh he1; clear ho1 he1; obtain ⟨c0, c2, c3, c4, c5, c6, ⟨d0, d1, d2, d3, d4⟩, ⟨e0, e1, e2, e3, e4⟩⟩ := HC2.out w1 HO.out.bel; clear HU HUN)
       | ((with_reducible refine (HXT.out _ (HUP.out _ HO.out.bel)).mono ?_); rintro e w1 ⟨gu, nu, cu, rfl, hu, hun⟩; have hb1 := hu.bel; replace HO := lh (HO.out.call hb1); have HU := lh hu; have HUN := lh hun; clear hu hun hb1; obtain ⟨c0, c2, c3, c4, c5, c6, ⟨d0, d1, d2, d3, d4⟩, ⟨e0, e1, e2, e3, e4⟩⟩ := HC2.out w1 HO.out.bel))
      go_roundw
      case rel => exact ⟨j + 1, _, _, _, _, by omega, by go_num, rfl, HO, HE⟩
      case measure => simp [intOf]; omega
  · have hje : j = nx := by omega
    have hdn : xs.drop j = [] := List.drop_of_length_le (by rw [hje, HNX.out]; exact Nat.le_refl _)
    replace HE : Hid (L ++ ([[41]] ++ ([[59]] ++ [])) = T) := lh (by
     have h := HE.out
     unfold cmR at h
     by_cases hj0 : j = 0
     · rw [if_pos hj0] at h
       rw [hj0, List.drop_zero] at hdn
       rw [hdn] at h
       simpa [commas] using h
     · rw [if_neg hj0, hdn] at h
       simpa using h)
    clear hje hdn HTK
    go_wp2_with (first | (at_builtin; refine Xax rfl _ _ rfl HO.out HTL.out rfl HE.out (by first | rfl | (rw [HSN.out]; rfl) | (rw [HST.out]; rfl) | (rw [HSN.out, HST.out]; rfl)) (by rfl) (by decide) (by simp) rfl ?_; intro g1 N1 c1 w1 L1 ho1 he1; replace HO := lh ho1; replace HE := lh he1; clear ho1 he1; obtain ⟨c0, c2, c3, c4, c5, c6, ⟨d0, d1, d2, d3, d4⟩, ⟨e0, e1, e2, e3, e4⟩⟩ := HC2.out w1 HO.out.bel))
    go_ret
    exact ⟨_, _, _, rfl, HO.out.done HE.out (HEND.out _ HBV.out) (by have := HGL.out; have := HBV.out.size; omega), HT0.out⟩
end Go.Proofs.YtodociiaobjfgaaGreatDoor
