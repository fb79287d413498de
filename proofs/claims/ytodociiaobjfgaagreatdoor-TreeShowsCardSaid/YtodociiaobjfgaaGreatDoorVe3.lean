/- Ktb -/
import Derived.Test.YtodociiaobjfgaaGreatDoorVe4
set_option linter.unusedVariables false
set_option linter.unusedSimpArgs false
namespace Go.Proofs.YtodociiaobjfgaaGreatDoor
open Go.RowKit
theorem out_nil {ops : Array Oper} {rest : List Oper} {o : Oper} {a : Act} {V w : World} {Q : Exit → Act → World → Prop} (hgd : o.guard = none) (sl x : Operand)
  (ho : o.op = .call { callee := .builtin .append, args := #[sl, x], argTypes := #[53, 53] })
  {base g N c : Nat} {L : List (List UInt8)} (hout : Out V w base g N c L) (hs : a.eval sl = .slice (some ⟨g, 0, none⟩) N c) (hx : a.eval x = .slice none 0 0)
  (h : wpList Tryz.prog ops Q rest (a.put o.dst (.slice (some ⟨g, 0, none⟩) N c)) w) : wpList Tryz.prog ops Q (o :: rest) a w := by
 obtain ⟨i0, hi, hz0, hz1, hz2⟩ := info_parts Xqn
 have hNc : N ≤ c := by
  rcases hout.own with ⟨_, ⟨e, _⟩ | ⟨g', cap, cur, e, _, _, hle, _⟩⟩
  · cases e
  · injection e with e1 e2 e3
    rw [e3, e2]; exact hle
 have hr : (Builtin.append_ #[53, 53] o.type #[.slice (some ⟨g, 0, none⟩) N c, .slice none 0 0]).run Tryz.prog w = .ok (.slice (some ⟨g, 0, none⟩) N c) w := by
  simp [Builtin.append_, run_underlying Tryz.underlying53, sizeOf, typeInfo, hi, Builtin.lenOf, Builtin.firstCells, loadCells, loadCellsFrom, storeCells, hNc]
 refine wpList_plain hgd fun K hK => ?_
 unfold Oper.wp execOp
 simp only [ho, resolve, invoke, builtin, Sem.run_bind, Sem.run_pure, Result.andThen_ok, List.map_toArray, List.map_cons, List.map_nil, hs, hx, hr]
 exact hK _ _ h
theorem Xjt {p : Pr} {R : List (List UInt8)} (h : Xfw p = some R) : ∃ TY, tyT p.type = some TY ∧ R = [p.name] ++ TY := by
 unfold Xfw nmT at h
 obtain ⟨x, y, e1, e2, rfl⟩ := Xbi h
 split at e1
 · cases e1; exact ⟨y, e2, rfl⟩
 · cases e1
theorem Xvp {ps : List Pr} {j : Nat} (hj : j < ps.length) {R : List (List UInt8)} (h : Xek (ps.drop j) = some R) : ∃ TY R2, tyT ps[j].type = some TY ∧ Xek (ps.drop (j + 1)) = some R2 ∧ R = [ps[j].name] ++ (TY ++ ([[59]] ++ R2)) := by
 rw [Xlo hj, Xek] at h
 obtain ⟨x, R2, e1, e2, rfl⟩ := Xbi h
 obtain ⟨y, z, e3, e4, rfl⟩ := Xbi e1
 cases e4
 obtain ⟨TY, e5, rfl⟩ := Xjt e3
 exact ⟨TY, R2, e5, e2, by simp⟩
theorem Xnr {ps : List Pr} {j : Nat} (hj : j < ps.length) {R : List (List UInt8)} (h : Xdu (ps.drop j) j = some R) : ∃ TY R2, tyT ps[j].type = some TY ∧ Xdu (ps.drop (j + 1)) (j + 1) = some R2 ∧ R = (if j = 0 then [] else [[44]]) ++ ([ps[j].name] ++ (TY ++ R2)) := by
 rw [Xlo hj, Xdu] at h
 obtain ⟨x, R2, e1, e2, rfl⟩ := Xbi h
 obtain ⟨y, z, e3, e4, rfl⟩ := Xbi e1
 cases e3
 obtain ⟨TY, e5, rfl⟩ := Xjt e4
 exact ⟨TY, R2, e5, e2, by simp⟩
set_option maxHeartbeats 40000000 in
set_option maxRecDepth 100000 in
theorem dk_3 {w X : World} {g : Nat} {p num : Int} {SN ST : ByteArray} {A5 A6 : Option Addr} {m5 m6 np nb : Nat} {nm ty : List UInt8} {prs : List Pr} {B1 TY T : List (List UInt8)} {R0 : List (List UInt8)} (F : DkF w X g 3 p num SN ST A5 A6 m5 m6 np nb nm ty prs B1 TY T) (hnp : np ≤ 8) (hpen : Xek prs = some R0) (hT : [[115, 116, 114, 117, 99, 116], nm] ++ ([[123]] ++ (R0 ++ ([[125]] ++ []))) = T) :
  Calls Tryz.prog 18 #[.agg #[.int .i64 3, .int .i64 p, .int .i64 num, .string SN, .string ST, .slice A5 np m5, .slice A6 nb m6]] w fun e w' => ∃ g' N c, e = .returned (.slice (some ⟨g', 0, none⟩) N c) ∧ Out w w' g g' N c T ∧ T ≠ [] := by
 obtain ⟨HX, HG, HGL, HC, HPR, HTY, HTN, HB1, HEND, HSN, HNP, HTL, HT0⟩ := F
 have HE := lh hT
 clear hT
 go_enter Tryz.func18, Tryz.ntmps18
 go_upto_region 1 with fail
 rw [← HG.out, ← HX.out]
 obtain ⟨c0, c2, c3, c4, c5, c6⟩ := HC.out X (Below.refl _ _)
 have hgl := HGL.out
 go_upto_region 2 with fail
 go_region
 obtain ⟨V, hV⟩ : ∃ V : World, V = X.alloc (.cells #[.string ⟨#[]⟩, .string ⟨#[108, 111, 99, 107]⟩, .string ⟨#[99, 104, 97, 110]⟩, .string ⟨#[115, 116, 114, 117, 99, 116]⟩, .string ⟨#[118, 97, 114]⟩, .string ⟨#[105, 110, 112, 117, 116]⟩, .string ⟨#[115, 105, 110, 107]⟩, .string ⟨#[102, 117, 110, 99]⟩, .string ⟨#[116, 104, 114, 101, 97, 100]⟩] 69) := ⟨_, rfl⟩
 have hsz : V.heap.size = X.heap.size + 1 := by rw [hV]; simp
 rw [← hV, ← hsz]
 have hbV : Below X.heap.size X V := by rw [hV]; exact (Below.refl _ _).alloc (Nat.le_refl _) _
 have HBV := lh hbV
 have ho := (Out.lit (V := V) (w := V) (base := V.heap.size) #[.string ⟨#[115, 116, 114, 117, 99, 116]⟩, .string SN] [[115, 116, 114, 117, 99, 116], nm] 2 rfl (by rw [HSN.out]; rfl) (Nat.le_refl _) (by simp) (Below.refl _ _)).drew
 obtain ⟨W0, hW0⟩ : ∃ W0 : World, W0 = (V.alloc (.cells #[.string ⟨#[115, 116, 114, 117, 99, 116]⟩, .string SN] 9)).drew := ⟨_, rfl⟩
 rw [← hW0] at ho ⊢
 have HO := lh ho
 clear hV hbV hgl hsz hW0 ho c0 c2 c3 c4 c5 c6
 have HUP : Hid (∀ W, Below V.heap.size V W → Below X.heap.size X W) := lh fun W hW => HBV.out.trans (hW.mono HBV.out.size)
 have HC2 : Hid (∀ W : World, Below V.heap.size V W → W.cell? ⟨g, 0, none⟩ = some (.int .i64 3) ∧ W.cell? ⟨g, 2, none⟩ = some (.int .i64 num) ∧ W.cell? ⟨g, 3, none⟩ = some (.string SN) ∧ W.cell? ⟨g, 4, none⟩ = some (.string ST) ∧ W.cell? ⟨g, 5, none⟩ = some (.slice A5 np m5) ∧ W.cell? ⟨g, 6, none⟩ = some (.slice A6 nb m6)) := lh fun W hW => HC.out W (HUP.out W hW)
 obtain ⟨c0, c2, c3, c4, c5, c6⟩ := HC2.out _ HO.out.bel
 have HPEN : Hid (Xek (prs.drop 0) = some R0) := lh hpen
 clear HTY HTN HB1 hpen
 go_wp2_with (first | (at_builtin; refine Xax rfl _ _ rfl HO.out HTL.out rfl HE.out (by first | rfl | (rw [HSI.out]; rfl)) (by rfl) (by decide) (by simp) rfl ?_; intro g1 N1 c1 w1 L1 ho1 he1; replace HO := lh ho1; replace HE := lh he1; clear ho1 he1; obtain ⟨c0, c2, c3, c4, c5, c6⟩ := HC2.out w1 HO.out.bel))
 go_loopw [4, 5] (fun o i wr => ∃ (j gi Ni ci : Nat) (L R : List (List UInt8)), j ≤ np ∧ i = .int .i64 j ∧ o = .slice (some ⟨gi, 0, none⟩) Ni ci ∧ Hid (Out V wr V.heap.size gi Ni ci L) ∧ Hid (Xek (prs.drop j) = some R) ∧ Hid (L ++ (R ++ ([[125]] ++ [])) = T)) (fun _ i _ => np - (intOf i).toNat)
 case atStart => exact ⟨0, _, _, _, _, R0, Nat.zero_le _, rfl, rfl, HO, HPEN, HE⟩
 case round =>
  obtain ⟨wo, rfl⟩ : ∃ wo : World, wo = wr := ⟨_, rfl⟩
  clear HO HE HPEN
  obtain ⟨j, gi, Ni, ci, L, R, hj, rfl, rfl, HO, HR, HE⟩ := hrel
  obtain ⟨c0, c2, c3, c4, c5, c6⟩ := HC2.out wo HO.out.bel
  by_cases hlt : j < np
  · have hje : j < prs.length := by rw [← HNP.out]; exact hlt
    obtain ⟨b, off, hA, hty, hcl⟩ := HPR.out j hje
    subst hA
    obtain ⟨TYj, R2, hTYj, hR2, hRR⟩ := Xvp hje HR.out
    obtain ⟨PN, hPN⟩ : ∃ x, x = prs[j].name := ⟨_, rfl⟩
    obtain ⟨PT, hPT⟩ : ∃ x, x = prs[j].type := ⟨_, rfl⟩
    rw [← hPN, ← hPT] at hcl
    rw [← hPT] at hty hTYj
    rw [← hPN] at hRR
    obtain ⟨SPN, hSPN⟩ : ∃ x, x = Xaa PN := ⟨_, rfl⟩
    obtain ⟨SPT, hSPT⟩ : ∃ x, x = Xaa PT := ⟨_, rfl⟩
    have HTYJ : Hid (∀ W, Calls Tryz.prog 31 #[.string SPT] W (Xch W TYj)) := lh fun W => by rw [hSPT]; exact Xfj W PT hty hTYj
    rw [← hSPN, ← hSPT] at hcl
    have HSPN := lh hSPN
    have HCL := lh hcl
    have HR2 := lh hR2
    obtain ⟨r0, r1⟩ := hcl wo (HUP.out _ HO.out.bel)
    have hwj : IntKind.i64.wrap ((j : Int) + 1) = (j : Int) + 1 := IntWalk.i64_in _ ⟨by omega, by omega⟩
    clear hcl hSPN hSPT hPN hPT hty hTYj hR2 hje HPR
    replace HE : Hid (L ++ ([PN] ++ (TYj ++ ([[59]] ++ (R2 ++ ([[125]] ++ []))))) = T) := lh (by have h := HE.out; rw [hRR] at h; simpa using h)
    clear hRR HR
    go_wp2_with (first
     | (at_builtin; refine Xax rfl _ _ rfl HO.out HTL.out rfl HE.out (by first | rfl | (rw [HSPN.out]; rfl)) (by rfl) (by decide) (by simp) rfl ?_; intro g1 N1 c1 w1 L1 ho1 he1; replace HO := lh ho1; replace HE := lh he1; clear ho1 he1; obtain ⟨c0, c2, c3, c4, c5, c6⟩ := HC2.out w1 HO.out.bel; obtain ⟨r0, r1⟩ := HCL.out w1 (HUP.out _ HO.out.bel))
     | (at_builtin; refine Xbq rfl _ _ rfl HO.out HTL.out rfl HE.out HU.out HUN.out rfl ?_; intro g1 N1 c1 w1 L1 ho1 he1; replace HO := lh ho1; replace HE := lh he1; clear ho1 he1; obtain ⟨c0, c2, c3, c4, c5, c6⟩ := HC2.out w1 HO.out.bel; obtain ⟨r0, r1⟩ := HCL.out w1 (HUP.out _ HO.out.bel); clear HU HUN)
     | ((with_reducible refine (HTYJ.out _).mono ?_); rintro e w1 ⟨gu, nu, cu, rfl, hu, hun⟩; have hb1 := hu.bel; replace HO := lh (HO.out.call hb1); have HU := lh hu; have HUN := lh hun; clear hu hun hb1; obtain ⟨c0, c2, c3, c4, c5, c6⟩ := HC2.out w1 HO.out.bel; obtain ⟨r0, r1⟩ := HCL.out w1 (HUP.out _ HO.out.bel)))
    go_roundw
    case rel => exact ⟨j + 1, _, _, _, _, R2, by omega, by go_num, rfl, HO, HR2, HE⟩
    case measure => simp [intOf]; omega
  · have hje : j = np := by omega
    have hdn : prs.drop j = [] := List.drop_of_length_le (by rw [hje, HNP.out]; exact Nat.le_refl _)
    have hR0 : R = [] := by
     have h := HR.out
     rw [hdn] at h
     cases h; rfl
    replace HE : Hid (L ++ ([[125]] ++ []) = T) := lh (by have h := HE.out; rw [hR0] at h; simpa using h)
    clear hje hdn hR0 HR HPR
    go_wp2_with (first
     | (at_builtin; refine Xax rfl _ _ rfl HO.out HTL.out rfl HE.out (by first | rfl | (rw [HSI.out]; rfl)) (by rfl) (by decide) (by simp) rfl ?_; intro g1 N1 c1 w1 L1 ho1 he1; replace HO := lh ho1; replace HE := lh he1; clear ho1 he1; obtain ⟨c0, c2, c3, c4, c5, c6⟩ := HC2.out w1 HO.out.bel))
    go_ret
    exact ⟨_, _, _, rfl, HO.out.done HE.out (HEND.out _ HBV.out) (by have := HGL.out; have := HBV.out.size; omega), HT0.out⟩
set_option maxHeartbeats 40000000 in
set_option maxRecDepth 100000 in
theorem dk_7 {w X : World} {g : Nat} {p num : Int} {SN ST : ByteArray} {A5 A6 : Option Addr} {m5 m6 np nb : Nat} {nm ty : List UInt8} {prs : List Pr} {B1 TY T : List (List UInt8)} {R0 : List (List UInt8)} (F : DkF w X g 7 p num SN ST A5 A6 m5 m6 np nb nm ty prs B1 TY T) (hTY : TY ≠ []) (hB1 : B1 ≠ []) (hnp : np ≤ 8) (hpen : Xdu prs 0 = some R0) (hT : [[102, 117, 110, 99], nm] ++ ([[40]] ++ (R0 ++ ([[41]] ++ (TY ++ (B1 ++ []))))) = T) :
  Calls Tryz.prog 18 #[.agg #[.int .i64 7, .int .i64 p, .int .i64 num, .string SN, .string ST, .slice A5 np m5, .slice A6 nb m6]] w fun e w' => ∃ g' N c, e = .returned (.slice (some ⟨g', 0, none⟩) N c) ∧ Out w w' g g' N c T ∧ T ≠ [] := by
 obtain ⟨HX, HG, HGL, HC, HPR, HTY, HTN, HB1, HEND, HSN, HNP, HTL, HT0⟩ := F
 have HE := lh hT
 clear hT
 go_enter Tryz.func18, Tryz.ntmps18
 go_upto_region 1 with fail
 rw [← HG.out, ← HX.out]
 obtain ⟨c0, c2, c3, c4, c5, c6⟩ := HC.out X (Below.refl _ _)
 have hgl := HGL.out
 go_upto_region 2 with fail
 go_region
 obtain ⟨V, hV⟩ : ∃ V : World, V = X.alloc (.cells #[.string ⟨#[]⟩, .string ⟨#[108, 111, 99, 107]⟩, .string ⟨#[99, 104, 97, 110]⟩, .string ⟨#[115, 116, 114, 117, 99, 116]⟩, .string ⟨#[118, 97, 114]⟩, .string ⟨#[105, 110, 112, 117, 116]⟩, .string ⟨#[115, 105, 110, 107]⟩, .string ⟨#[102, 117, 110, 99]⟩, .string ⟨#[116, 104, 114, 101, 97, 100]⟩] 69) := ⟨_, rfl⟩
 have hsz : V.heap.size = X.heap.size + 1 := by rw [hV]; simp
 rw [← hV, ← hsz]
 have hbV : Below X.heap.size X V := by rw [hV]; exact (Below.refl _ _).alloc (Nat.le_refl _) _
 have HBV := lh hbV
 have ho := (Out.lit (V := V) (w := V) (base := V.heap.size) #[.string ⟨#[102, 117, 110, 99]⟩, .string SN] [[102, 117, 110, 99], nm] 2 rfl (by rw [HSN.out]; rfl) (Nat.le_refl _) (by simp) (Below.refl _ _)).drew
 obtain ⟨W0, hW0⟩ : ∃ W0 : World, W0 = (V.alloc (.cells #[.string ⟨#[102, 117, 110, 99]⟩, .string SN] 9)).drew := ⟨_, rfl⟩
 rw [← hW0] at ho ⊢
 have HO := lh ho
 clear hV hbV hgl hsz hW0 ho c0 c2 c3 c4 c5 c6
 have HUP : Hid (∀ W, Below V.heap.size V W → Below X.heap.size X W) := lh fun W hW => HBV.out.trans (hW.mono HBV.out.size)
 have HC2 : Hid (∀ W : World, Below V.heap.size V W → W.cell? ⟨g, 0, none⟩ = some (.int .i64 7) ∧ W.cell? ⟨g, 2, none⟩ = some (.int .i64 num) ∧ W.cell? ⟨g, 3, none⟩ = some (.string SN) ∧ W.cell? ⟨g, 4, none⟩ = some (.string ST) ∧ W.cell? ⟨g, 5, none⟩ = some (.slice A5 np m5) ∧ W.cell? ⟨g, 6, none⟩ = some (.slice A6 nb m6)) := lh fun W hW => HC.out W (HUP.out W hW)
 obtain ⟨c0, c2, c3, c4, c5, c6⟩ := HC2.out _ HO.out.bel
 have HTY2 := lh (HTY.out hTY)
 have HB12 := lh (HB1.out hB1)
 have HPEN : Hid (Xdu (prs.drop 0) 0 = some R0) := lh hpen
 clear HTY HTN HB1 hpen
 go_wp2_with (first | (at_builtin; refine Xax rfl _ _ rfl HO.out HTL.out rfl HE.out (by first | rfl | (rw [HSI.out]; rfl)) (by rfl) (by decide) (by simp) rfl ?_; intro g1 N1 c1 w1 L1 ho1 he1; replace HO := lh ho1; replace HE := lh he1; clear ho1 he1; obtain ⟨c0, c2, c3, c4, c5, c6⟩ := HC2.out w1 HO.out.bel))
 go_loopw [4, 6] (fun o i wr => ∃ (j gi Ni ci : Nat) (L R : List (List UInt8)), j ≤ np ∧ i = .int .i64 j ∧ o = .slice (some ⟨gi, 0, none⟩) Ni ci ∧ Hid (Out V wr V.heap.size gi Ni ci L) ∧ Hid (Xdu (prs.drop j) j = some R) ∧ Hid (L ++ (R ++ ([[41]] ++ (TY ++ (B1 ++ [])))) = T)) (fun _ i _ => np - (intOf i).toNat)
 case atStart => exact ⟨0, _, _, _, _, R0, Nat.zero_le _, rfl, rfl, HO, HPEN, HE⟩
 case round =>
  obtain ⟨wo, rfl⟩ : ∃ wo : World, wo = wr := ⟨_, rfl⟩
  clear HO HE HPEN
  obtain ⟨j, gi, Ni, ci, L, R, hj, rfl, rfl, HO, HR, HE⟩ := hrel
  obtain ⟨c0, c2, c3, c4, c5, c6⟩ := HC2.out wo HO.out.bel
  by_cases hlt : j < np
  · have hje : j < prs.length := by rw [← HNP.out]; exact hlt
    obtain ⟨b, off, hA, hty, hcl⟩ := HPR.out j hje
    subst hA
    obtain ⟨TYj, R2, hTYj, hR2, hRR⟩ := Xnr hje HR.out
    obtain ⟨PN, hPN⟩ : ∃ x, x = prs[j].name := ⟨_, rfl⟩
    obtain ⟨PT, hPT⟩ : ∃ x, x = prs[j].type := ⟨_, rfl⟩
    rw [← hPN, ← hPT] at hcl
    rw [← hPT] at hty hTYj
    rw [← hPN] at hRR
    obtain ⟨SPN, hSPN⟩ : ∃ x, x = Xaa PN := ⟨_, rfl⟩
    obtain ⟨SPT, hSPT⟩ : ∃ x, x = Xaa PT := ⟨_, rfl⟩
    have HTYJ : Hid (∀ W, Calls Tryz.prog 31 #[.string SPT] W (Xch W TYj)) := lh fun W => by rw [hSPT]; exact Xfj W PT hty hTYj
    rw [← hSPN, ← hSPT] at hcl
    have HSPN := lh hSPN
    have HCL := lh hcl
    have HR2 := lh hR2
    obtain ⟨r0, r1⟩ := hcl wo (HUP.out _ HO.out.bel)
    have hwj : IntKind.i64.wrap ((j : Int) + 1) = (j : Int) + 1 := IntWalk.i64_in _ ⟨by omega, by omega⟩
    clear hcl hSPN hSPT hPN hPT hty hTYj hR2 hje HPR
    by_cases hj0 : j = 0
    · subst hj0
      rw [if_pos rfl] at hRR
      simp only [Nat.zero_mul, Nat.add_zero] at r0 r1
      have hcl0 := HCL.out
      simp only [Nat.zero_mul, Nat.add_zero] at hcl0
      replace HCL := lh hcl0
      clear hcl0
      replace HE : Hid (L ++ ([PN] ++ (TYj ++ (R2 ++ ([[41]] ++ (TY ++ (B1 ++ [])))))) = T) := lh (by have h := HE.out; rw [hRR] at h; simpa using h)
      clear hRR HR
      go_wp2_with (first
       | (at_builtin; refine Xax rfl _ _ rfl HO.out HTL.out rfl HE.out (by first | rfl | (rw [HSPN.out]; rfl)) (by rfl) (by decide) (by simp) rfl ?_; intro g1 N1 c1 w1 L1 ho1 he1; replace HO := lh ho1; replace HE := lh he1; clear ho1 he1; obtain ⟨c0, c2, c3, c4, c5, c6⟩ := HC2.out w1 HO.out.bel; obtain ⟨r0, r1⟩ := HCL.out w1 (HUP.out _ HO.out.bel))
       | (at_builtin; refine Xbq rfl _ _ rfl HO.out HTL.out rfl HE.out HU.out HUN.out rfl ?_; intro g1 N1 c1 w1 L1 ho1 he1; replace HO := lh ho1; replace HE := lh he1; clear ho1 he1; obtain ⟨c0, c2, c3, c4, c5, c6⟩ := HC2.out w1 HO.out.bel; obtain ⟨r0, r1⟩ := HCL.out w1 (HUP.out _ HO.out.bel); clear HU HUN)
       | ((with_reducible refine (HTYJ.out _).mono ?_); rintro e w1 ⟨gu, nu, cu, rfl, hu, hun⟩; have hb1 := hu.bel; replace HO := lh (HO.out.call hb1); have HU := lh hu; have HUN := lh hun; clear hu hun hb1; obtain ⟨c0, c2, c3, c4, c5, c6⟩ := HC2.out w1 HO.out.bel; obtain ⟨r0, r1⟩ := HCL.out w1 (HUP.out _ HO.out.bel)))
      go_roundw
      case rel => exact ⟨0 + 1, _, _, _, _, R2, by omega, by go_num, rfl, HO, HR2, HE⟩
      case measure => simp [intOf]; omega
    · have hjp : 0 < j := by omega
      have hd : decide (0 < j) = true := by simpa using hjp
      rw [if_neg hj0] at hRR
      replace HE : Hid (L ++ ([[44]] ++ ([PN] ++ (TYj ++ (R2 ++ ([[41]] ++ (TY ++ (B1 ++ []))))))) = T) := lh (by have h := HE.out; rw [hRR] at h; simpa using h)
      clear hRR HR
      go_wp2_with (first
       | (at_builtin; refine Xax rfl _ _ rfl HO.out HTL.out rfl HE.out (by first | rfl | (rw [HSPN.out]; rfl)) (by rfl) (by decide) (by simp) rfl ?_; intro g1 N1 c1 w1 L1 ho1 he1; replace HO := lh ho1; replace HE := lh he1; clear ho1 he1; obtain ⟨c0, c2, c3, c4, c5, c6⟩ := HC2.out w1 HO.out.bel; obtain ⟨r0, r1⟩ := HCL.out w1 (HUP.out _ HO.out.bel))
       | (at_builtin; refine Xbq rfl _ _ rfl HO.out HTL.out rfl HE.out HU.out HUN.out rfl ?_; intro g1 N1 c1 w1 L1 ho1 he1; replace HO := lh ho1; replace HE := lh he1; clear ho1 he1; obtain ⟨c0, c2, c3, c4, c5, c6⟩ := HC2.out w1 HO.out.bel; obtain ⟨r0, r1⟩ := HCL.out w1 (HUP.out _ HO.out.bel); clear HU HUN)
       | ((with_reducible refine (HTYJ.out _).mono ?_); rintro e w1 ⟨gu, nu, cu, rfl, hu, hun⟩; have hb1 := hu.bel; replace HO := lh (HO.out.call hb1); have HU := lh hu; have HUN := lh hun; clear hu hun hb1; obtain ⟨c0, c2, c3, c4, c5, c6⟩ := HC2.out w1 HO.out.bel; obtain ⟨r0, r1⟩ := HCL.out w1 (HUP.out _ HO.out.bel)))
      go_roundw
      case rel => exact ⟨j + 1, _, _, _, _, R2, by omega, by go_num, rfl, HO, HR2, HE⟩
      case measure => simp [intOf]; omega
  · have hje : j = np := by omega
    have hdn : prs.drop j = [] := List.drop_of_length_le (by rw [hje, HNP.out]; exact Nat.le_refl _)
    have hR0 : R = [] := by
     have h := HR.out
     rw [hdn] at h
     cases h; rfl
    replace HE : Hid (L ++ ([[41]] ++ (TY ++ (B1 ++ []))) = T) := lh (by have h := HE.out; rw [hR0] at h; simpa using h)
    clear hje hdn hR0 HR HPR
    go_wp2_with (first
     | (at_builtin; refine Xax rfl _ _ rfl HO.out HTL.out rfl HE.out (by first | rfl | (rw [HSI.out]; rfl)) (by rfl) (by decide) (by simp) rfl ?_; intro g1 N1 c1 w1 L1 ho1 he1; replace HO := lh ho1; replace HE := lh he1; clear ho1 he1; obtain ⟨c0, c2, c3, c4, c5, c6⟩ := HC2.out w1 HO.out.bel)
     | (at_builtin; refine Xbq rfl _ _ rfl HO.out HTL.out rfl HE.out HU.out HUN.out rfl ?_; intro g1 N1 c1 w1 L1 ho1 he1; replace HO := lh ho1; replace HE := lh he1; clear ho1 he1; obtain ⟨c0, c2, c3, c4, c5, c6⟩ := HC2.out w1 HO.out.bel; clear HU HUN)
     | ((with_reducible refine (HB12.out _ (HUP.out _ HO.out.bel)).mono ?_); rintro e w1 ⟨gu, nu, cu, rfl, hu, hun⟩; have hb1 := hu.bel; replace HO := lh (HO.out.call hb1); have HU := lh hu; have HUN := lh hun; clear hu hun hb1; obtain ⟨c0, c2, c3, c4, c5, c6⟩ := HC2.out w1 HO.out.bel)
     | ((with_reducible refine (HTY2.out _).mono ?_); rintro e w1 ⟨gu, nu, cu, rfl, hu, hun⟩; have hb1 := hu.bel; replace HO := lh (HO.out.call hb1); have HU := lh hu; have HUN := lh hun; clear hu hun hb1; obtain ⟨c0, c2, c3, c4, c5, c6⟩ := HC2.out w1 HO.out.bel))
    go_ret
    exact ⟨_, _, _, rfl, HO.out.done HE.out (HEND.out _ HBV.out) (by have := HGL.out; have := HBV.out.size; omega), HT0.out⟩
set_option maxHeartbeats 40000000 in
set_option maxRecDepth 100000 in
theorem dk_7n {w X : World} {g : Nat} {p num : Int} {SN ST : ByteArray} {A5 A6 : Option Addr} {m5 m6 np nb : Nat} {nm ty : List UInt8} {prs : List Pr} {B1 TY T : List (List UInt8)} {R0 : List (List UInt8)} (F : DkF w X g 7 p num SN ST A5 A6 m5 m6 np nb nm ty prs B1 TY T) (hty : ty = []) (hB1 : B1 ≠ []) (hnp : np ≤ 8) (hpen : Xdu prs 0 = some R0) (hT : [[102, 117, 110, 99], nm] ++ ([[40]] ++ (R0 ++ ([[41]] ++ (B1 ++ [])))) = T) :
  Calls Tryz.prog 18 #[.agg #[.int .i64 7, .int .i64 p, .int .i64 num, .string SN, .string ST, .slice A5 np m5, .slice A6 nb m6]] w fun e w' => ∃ g' N c, e = .returned (.slice (some ⟨g', 0, none⟩) N c) ∧ Out w w' g g' N c T ∧ T ≠ [] := by
 obtain ⟨HX, HG, HGL, HC, HPR, HTY, HTN, HB1, HEND, HSN, HNP, HTL, HT0⟩ := F
 have HE := lh hT
 clear hT
 go_enter Tryz.func18, Tryz.ntmps18
 go_upto_region 1 with fail
 rw [← HG.out, ← HX.out]
 obtain ⟨c0, c2, c3, c4, c5, c6⟩ := HC.out X (Below.refl _ _)
 have hgl := HGL.out
 go_upto_region 2 with fail
 go_region
 obtain ⟨V, hV⟩ : ∃ V : World, V = X.alloc (.cells #[.string ⟨#[]⟩, .string ⟨#[108, 111, 99, 107]⟩, .string ⟨#[99, 104, 97, 110]⟩, .string ⟨#[115, 116, 114, 117, 99, 116]⟩, .string ⟨#[118, 97, 114]⟩, .string ⟨#[105, 110, 112, 117, 116]⟩, .string ⟨#[115, 105, 110, 107]⟩, .string ⟨#[102, 117, 110, 99]⟩, .string ⟨#[116, 104, 114, 101, 97, 100]⟩] 69) := ⟨_, rfl⟩
 have hsz : V.heap.size = X.heap.size + 1 := by rw [hV]; simp
 rw [← hV, ← hsz]
 have hbV : Below X.heap.size X V := by rw [hV]; exact (Below.refl _ _).alloc (Nat.le_refl _) _
 have HBV := lh hbV
 have ho := (Out.lit (V := V) (w := V) (base := V.heap.size) #[.string ⟨#[102, 117, 110, 99]⟩, .string SN] [[102, 117, 110, 99], nm] 2 rfl (by rw [HSN.out]; rfl) (Nat.le_refl _) (by simp) (Below.refl _ _)).drew
 obtain ⟨W0, hW0⟩ : ∃ W0 : World, W0 = (V.alloc (.cells #[.string ⟨#[102, 117, 110, 99]⟩, .string SN] 9)).drew := ⟨_, rfl⟩
 rw [← hW0] at ho ⊢
 have HO := lh ho
 clear hV hbV hgl hsz hW0 ho c0 c2 c3 c4 c5 c6
 have HUP : Hid (∀ W, Below V.heap.size V W → Below X.heap.size X W) := lh fun W hW => HBV.out.trans (hW.mono HBV.out.size)
 have HC2 : Hid (∀ W : World, Below V.heap.size V W → W.cell? ⟨g, 0, none⟩ = some (.int .i64 7) ∧ W.cell? ⟨g, 2, none⟩ = some (.int .i64 num) ∧ W.cell? ⟨g, 3, none⟩ = some (.string SN) ∧ W.cell? ⟨g, 4, none⟩ = some (.string ST) ∧ W.cell? ⟨g, 5, none⟩ = some (.slice A5 np m5) ∧ W.cell? ⟨g, 6, none⟩ = some (.slice A6 nb m6)) := lh fun W hW => HC.out W (HUP.out W hW)
 obtain ⟨c0, c2, c3, c4, c5, c6⟩ := HC2.out _ HO.out.bel
 have HTN2 := lh (HTN.out hty)
 have HB12 := lh (HB1.out hB1)
 have HPEN : Hid (Xdu (prs.drop 0) 0 = some R0) := lh hpen
 clear HTY HTN HB1 hpen
 go_wp2_with (first | (at_builtin; refine Xax rfl _ _ rfl HO.out HTL.out rfl HE.out (by first | rfl | (rw [HSI.out]; rfl)) (by rfl) (by decide) (by simp) rfl ?_; intro g1 N1 c1 w1 L1 ho1 he1; replace HO := lh ho1; replace HE := lh he1; clear ho1 he1; obtain ⟨c0, c2, c3, c4, c5, c6⟩ := HC2.out w1 HO.out.bel))
 go_loopw [4, 6] (fun o i wr => ∃ (j gi Ni ci : Nat) (L R : List (List UInt8)), j ≤ np ∧ i = .int .i64 j ∧ o = .slice (some ⟨gi, 0, none⟩) Ni ci ∧ Hid (Out V wr V.heap.size gi Ni ci L) ∧ Hid (Xdu (prs.drop j) j = some R) ∧ Hid (L ++ (R ++ ([[41]] ++ (B1 ++ []))) = T)) (fun _ i _ => np - (intOf i).toNat)
 case atStart => exact ⟨0, _, _, _, _, R0, Nat.zero_le _, rfl, rfl, HO, HPEN, HE⟩
 case round =>
  obtain ⟨wo, rfl⟩ : ∃ wo : World, wo = wr := ⟨_, rfl⟩
  clear HO HE HPEN
  obtain ⟨j, gi, Ni, ci, L, R, hj, rfl, rfl, HO, HR, HE⟩ := hrel
  obtain ⟨c0, c2, c3, c4, c5, c6⟩ := HC2.out wo HO.out.bel
  by_cases hlt : j < np
  · have hje : j < prs.length := by rw [← HNP.out]; exact hlt
    obtain ⟨b, off, hA, hty, hcl⟩ := HPR.out j hje
    subst hA
    obtain ⟨TYj, R2, hTYj, hR2, hRR⟩ := Xnr hje HR.out
    obtain ⟨PN, hPN⟩ : ∃ x, x = prs[j].name := ⟨_, rfl⟩
    obtain ⟨PT, hPT⟩ : ∃ x, x = prs[j].type := ⟨_, rfl⟩
    rw [← hPN, ← hPT] at hcl
    rw [← hPT] at hty hTYj
    rw [← hPN] at hRR
    obtain ⟨SPN, hSPN⟩ : ∃ x, x = Xaa PN := ⟨_, rfl⟩
    obtain ⟨SPT, hSPT⟩ : ∃ x, x = Xaa PT := ⟨_, rfl⟩
    have HTYJ : Hid (∀ W, Calls Tryz.prog 31 #[.string SPT] W (Xch W TYj)) := lh fun W => by rw [hSPT]; exact Xfj W PT hty hTYj
    rw [← hSPN, ← hSPT] at hcl
    have HSPN := lh hSPN
    have HCL := lh hcl
    have HR2 := lh hR2
    obtain ⟨r0, r1⟩ := hcl wo (HUP.out _ HO.out.bel)
    have hwj : IntKind.i64.wrap ((j : Int) + 1) = (j : Int) + 1 := IntWalk.i64_in _ ⟨by omega, by omega⟩
    clear hcl hSPN hSPT hPN hPT hty hTYj hR2 hje HPR
    by_cases hj0 : j = 0
    · subst hj0
      rw [if_pos rfl] at hRR
      simp only [Nat.zero_mul, Nat.add_zero] at r0 r1
      have hcl0 := HCL.out
      simp only [Nat.zero_mul, Nat.add_zero] at hcl0
      replace HCL := lh hcl0
      clear hcl0
      replace HE : Hid (L ++ ([PN] ++ (TYj ++ (R2 ++ ([[41]] ++ (B1 ++ []))))) = T) := lh (by have h := HE.out; rw [hRR] at h; simpa using h)
      clear hRR HR
      go_wp2_with (first
       | (at_builtin; refine Xax rfl _ _ rfl HO.out HTL.out rfl HE.out (by first | rfl | (rw [HSPN.out]; rfl)) (by rfl) (by decide) (by simp) rfl ?_; intro g1 N1 c1 w1 L1 ho1 he1; replace HO := lh ho1; replace HE := lh he1; clear ho1 he1; obtain ⟨c0, c2, c3, c4, c5, c6⟩ := HC2.out w1 HO.out.bel; obtain ⟨r0, r1⟩ := HCL.out w1 (HUP.out _ HO.out.bel))
       | (at_builtin; refine Xbq rfl _ _ rfl HO.out HTL.out rfl HE.out HU.out HUN.out rfl ?_; intro g1 N1 c1 w1 L1 ho1 he1; replace HO := lh ho1; replace HE := lh he1; clear ho1 he1; obtain ⟨c0, c2, c3, c4, c5, c6⟩ := HC2.out w1 HO.out.bel; obtain ⟨r0, r1⟩ := HCL.out w1 (HUP.out _ HO.out.bel); clear HU HUN)
       | ((with_reducible refine (HTYJ.out _).mono ?_); rintro e w1 ⟨gu, nu, cu, rfl, hu, hun⟩; have hb1 := hu.bel; replace HO := lh (HO.out.call hb1); have HU := lh hu; have HUN := lh hun; clear hu hun hb1; obtain ⟨c0, c2, c3, c4, c5, c6⟩ := HC2.out w1 HO.out.bel; obtain ⟨r0, r1⟩ := HCL.out w1 (HUP.out _ HO.out.bel)))
      go_roundw
      case rel => exact ⟨0 + 1, _, _, _, _, R2, by omega, by go_num, rfl, HO, HR2, HE⟩
      case measure => simp [intOf]; omega
    · have hjp : 0 < j := by omega
      have hd : decide (0 < j) = true := by simpa using hjp
      rw [if_neg hj0] at hRR
      replace HE : Hid (L ++ ([[44]] ++ ([PN] ++ (TYj ++ (R2 ++ ([[41]] ++ (B1 ++ [])))))) = T) := lh (by have h := HE.out; rw [hRR] at h; simpa using h)
      clear hRR HR
      go_wp2_with (first
       | (at_builtin; refine Xax rfl _ _ rfl HO.out HTL.out rfl HE.out (by first | rfl | (rw [HSPN.out]; rfl)) (by rfl) (by decide) (by simp) rfl ?_; intro g1 N1 c1 w1 L1 ho1 he1; replace HO := lh ho1; replace HE := lh he1; clear ho1 he1; obtain ⟨c0, c2, c3, c4, c5, c6⟩ := HC2.out w1 HO.out.bel; obtain ⟨r0, r1⟩ := HCL.out w1 (HUP.out _ HO.out.bel))
       | (at_builtin; refine Xbq rfl _ _ rfl HO.out HTL.out rfl HE.out HU.out HUN.out rfl ?_; intro g1 N1 c1 w1 L1 ho1 he1; replace HO := lh ho1; replace HE := lh he1; clear ho1 he1; obtain ⟨c0, c2, c3, c4, c5, c6⟩ := HC2.out w1 HO.out.bel; obtain ⟨r0, r1⟩ := HCL.out w1 (HUP.out _ HO.out.bel); clear HU HUN)
       | ((with_reducible refine (HTYJ.out _).mono ?_); rintro e w1 ⟨gu, nu, cu, rfl, hu, hun⟩; have hb1 := hu.bel; replace HO := lh (HO.out.call hb1); have HU := lh hu; have HUN := lh hun; clear hu hun hb1; obtain ⟨c0, c2, c3, c4, c5, c6⟩ := HC2.out w1 HO.out.bel; obtain ⟨r0, r1⟩ := HCL.out w1 (HUP.out _ HO.out.bel)))
      go_roundw
      case rel => exact ⟨j + 1, _, _, _, _, R2, by omega, by go_num, rfl, HO, HR2, HE⟩
      case measure => simp [intOf]; omega
  · have hje : j = np := by omega
    have hdn : prs.drop j = [] := List.drop_of_length_le (by rw [hje, HNP.out]; exact Nat.le_refl _)
    have hR0 : R = [] := by
     have h := HR.out
     rw [hdn] at h
     cases h; rfl
    replace HE : Hid (L ++ ([[41]] ++ (B1 ++ [])) = T) := lh (by have h := HE.out; rw [hR0] at h; simpa using h)
    clear hje hdn hR0 HR HPR
    go_wp2_with (first
     | (at_builtin; refine Xax rfl _ _ rfl HO.out HTL.out rfl HE.out (by first | rfl | (rw [HSI.out]; rfl)) (by rfl) (by decide) (by simp) rfl ?_; intro g1 N1 c1 w1 L1 ho1 he1; replace HO := lh ho1; replace HE := lh he1; clear ho1 he1; obtain ⟨c0, c2, c3, c4, c5, c6⟩ := HC2.out w1 HO.out.bel)
     | (at_builtin; refine Xbq rfl _ _ rfl HO.out HTL.out rfl HE.out HU.out HUN.out rfl ?_; intro g1 N1 c1 w1 L1 ho1 he1; replace HO := lh ho1; replace HE := lh he1; clear ho1 he1; obtain ⟨c0, c2, c3, c4, c5, c6⟩ := HC2.out w1 HO.out.bel; clear HU HUN)
     | ((with_reducible refine (HB12.out _ (HUP.out _ HO.out.bel)).mono ?_); rintro e w1 ⟨gu, nu, cu, rfl, hu, hun⟩; have hb1 := hu.bel; replace HO := lh (HO.out.call hb1); have HU := lh hu; have HUN := lh hun; clear hu hun hb1; obtain ⟨c0, c2, c3, c4, c5, c6⟩ := HC2.out w1 HO.out.bel)
     | ((with_reducible refine (HTN2.out _).mono ?_); rintro e w1 ⟨rfl, hw⟩; rw [hw]; clear hw; have HNIL := lh True.intro)
     | (at_builtin; refine out_nil rfl _ _ rfl HO.out rfl rfl ?_; clear HNIL))
    go_ret
    exact ⟨_, _, _, rfl, HO.out.done HE.out (HEND.out _ HBV.out) (by have := HGL.out; have := HBV.out.size; omega), HT0.out⟩
end Go.Proofs.YtodociiaobjfgaaGreatDoor
