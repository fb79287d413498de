/- Im In Io Ip -/
import Derived.Test.YtbckeljbpknbdaaGreatDoorVe0
import Derived.Deep.CutRange
import Derived.Deep.CutBlock
set_option linter.unusedVariables false
set_option linter.unusedSimpArgs false
namespace Go.Proofs.YtbckeljbpknbdaaGreatDoor
open Go.RowKit
theorem Xat {P : Program} {ops : Array Oper} {Q : Exit → Act → World → Prop} {md : Region.Mode} {S : World → Prop} {i d : Nat} {oi : Oper} {v : Value} {fuel : Nat} {listed : Array Bool} {a : Act} {w : World} (hi : ops[i]? = some oi) (hd : oi.dst = some d)
  (hs : Region.noSelect ops = true) (hf : Region.free md ops listed i = true) (hr : (Region.ready md ops listed).contains i = true)
  (hQ : ∀ c a w, Q (.panic c) (a.put oi.dst v) w → Q (.panic c) a w) (hy : YieldsIf P ops S oi v a) (hS : S w)
  (h : wpAnyH P md ops Q S fuel (listed.setIfInBounds i true) ⟨a.tmps.setIfInBounds d v, a.defers⟩ w) : wpAnyH P md ops Q S (fuel + 1) listed a w :=
 wpAnyH_take hi hs hf hr hQ hy hS (by rw [hd]; exact h)
theorem Xfq (ds : List Dc) (p : Int) (s : List UInt8) : (Xbl ds p s).length ≤ 1 := by
 unfold Xbl
 split
 · exact Xht _ _ _ _
 · simp
set_option maxHeartbeats 4000000 in
set_option maxRecDepth 100000 in
theorem Xuz {w : World} {bb b base : Nat} {x : Nm} {l : List Dg} {left : Int} {dv lo : Value} {ps : List Pr} {ds : List Dc} (h : BdAt w bb b base x l left dv lo ps) (he : Env w base x ds) (hl : l.length + 3 ≤ 1000000) (hps : ps.length ≤ 1000000)
  (k p : Int) (nm ty : List UInt8) (hnm : nm.length ≤ 40000) (hty : ty.length ≤ 40000) (A1 A2 A3 : Option Addr) (n1 n2 n3 c1 c2 c3 : Nat) :
  Calls Tryz.prog 91 #[.pointer (some ⟨bb, 0, none⟩), .agg #[.int .i64 k, .int .i64 p, .string (Xab nm), .string (Xab ty), .slice A1 n1 c1, .slice A2 n2 c2, .slice A3 n3 c3]] w
   fun e w' => e = .returned (.tuple #[]) ∧ ∃ dv' lo', Xar w bb b base x dv lo w' dv' lo' (l ++ smD1 ds ps 1 p nm ty) left (addL ps nm ty) := by
 have hsm : smD1 ds ps 1 p nm ty = Xbl ds p ty ++ (if hasB ps nm = true ∨ (Xai ds nm).isSome = true then [⟨p, 40, nm⟩] else []) ++ (if 32 ≤ ps.length then [⟨p, 22, nm⟩] else []) := by unfold smD1; rw [if_pos rfl]
 have htl := Xfq ds p ty
 have hst : (Xab nm).size = nm.length := by rw [Lib.size_eq, Xbe]
 obtain ⟨S, hS⟩ : ∃ q, q = Xab nm := ⟨_, rfl⟩
 obtain ⟨T, hT⟩ : ∃ q, q = Xab ty := ⟨_, rfl⟩
 rw [← hS, ← hT]
 obtain ⟨X, hX⟩ : ∃ X : World, X = w.alloc (.cells #[.int .i64 k, .int .i64 p, .string S, .string T, .slice A1 n1 c1, .slice A2 n2 c2, .slice A3 n3 c3] 68) := ⟨_, rfl⟩
 have hbx : Below w.heap.size w X := by rw [hX]; exact (Below.refl _ _).alloc (Nat.le_refl _) _
 have hrow : X.heap[w.heap.size]? = some (.cells #[.int .i64 k, .int .i64 p, .string S, .string T, .slice A1 n1 c1, .slice A2 n2 c2, .slice A3 n3 c3] 68 (0, 0)) := by rw [hX]; exact heap_alloc_new _ _
 have hBX := h.below hbx
 have hEX := he.keep (hbx.mono (by have := h.lt; have := h.bbb; omega))
 have HCE : Hid (∀ V : World, Chg (Xhb bb b dv lo) X V → V.cell? ⟨w.heap.size, 1, none⟩ = some (.int .i64 p) ∧ V.cell? ⟨w.heap.size, 2, none⟩ = some (.string S) ∧ V.cell? ⟨w.heap.size, 3, none⟩ = some (.string T)) := lh fun V hV => by
  have hn : ¬ Xhb bb b dv lo w.heap.size := fun hm => by have := (h.mine hm).2; omega
  have hk2 := (hV.block _ (Xac hrow) hn).trans hrow
  exact ⟨by rw [cell_of_row V _ 1 _ _ (0, 0) hk2]; rfl, by rw [cell_of_row V _ 2 _ _ (0, 0) hk2]; rfl, by rw [cell_of_row V _ 3 _ _ (0, 0) hk2]; rfl⟩
 have HENV : Hid (∀ (V : World) (dv' lo' : Value) (l' : List Dg) (lf' : Int) (ps' : List Pr), Xar X bb b base x dv lo V dv' lo' l' lf' ps' → Env V base x ds) := lh fun V dv' lo' l' lf' ps' hV => hEX.keep (Xar.below_base hBX hV)
 have HUT : Hid (Calls Tryz.prog 34 #[.pointer (some ⟨b, 0, none⟩), .int .i64 p, .string T] X.drew fun e w' => e = .returned (.tuple #[]) ∧ ∃ dv', Xar X bb b base x dv lo w' dv' lo (l ++ Xbl ds p ty) left ps) := lh (by
  rw [hT]
  have h0 := (Xar.refl hBX).below (Xau X)
  exact (Xjs h0.1.nm (HENV.out _ _ _ _ _ _ h0) (by omega) p ty hty).mono fun e w' ⟨e1, dv', e2⟩ => ⟨e1, dv', h0.trans (h0.1.went e2)⟩)
 have HHA : Hid (∀ (V : World) (dv' : Value) (l' : List Dg), BdAt V bb b base x l' left dv' lo ps → Calls Tryz.prog 61 #[lo, .string S] V fun e w' => e = .returned (.bool (hasB ps nm)) ∧ Below V.heap.size V w') := lh fun V dv' l' hV => by
  rw [hS]; exact Xnn V hV.own.prs nm
 have HDE : Hid (∀ (V : World) (dv' : Value) (l' : List Dg), Xar X bb b base x dv lo V dv' lo l' left ps → Calls Tryz.prog 62 #[.pointer (some ⟨b, 0, none⟩), .string S] V fun e w' => e = .returned (.bool (Xai ds nm).isSome) ∧ w' = V) := lh fun V dv' l' hV => by
  rw [hS]; exact Xic hV.1.nm (HENV.out _ _ _ _ _ _ hV) nm hnm
 have HTE : Hid (∀ (V : World) (dv' : Value) (l' : List Dg) (cd : Int), Xar X bb b base x dv lo V dv' lo l' left ps → l'.length ≤ 1000000 → Calls Tryz.prog 32 #[.pointer (some ⟨b, 0, none⟩), .int .i64 p, .int .i64 cd, .string S] V fun e w' => e = .returned (.tuple #[]) ∧ ∃ dv2, Xar X bb b base x dv lo w' dv2 lo (l' ++ [⟨p, cd, nm⟩]) left ps) := lh fun V dv' l' cd hV hl' => by
  rw [hS]; exact (Xko hV.1.nm hl' p cd nm hnm).mono fun e w' ⟨e1, dv2, e2⟩ => ⟨e1, dv2, hV.trans (hV.1.went e2)⟩
 have HAD : Hid (∀ (V : World) (dv' : Value) (l' : List Dg), Xar X bb b base x dv lo V dv' lo l' left ps → Calls Tryz.prog 63 #[.pointer (some ⟨bb, 0, none⟩), .string S, .string T] V fun e w' => e = .returned (.tuple #[]) ∧ ∃ lo2, Xar X bb b base x dv lo w' dv' lo2 l' left (addL ps nm ty)) := lh fun V dv' l' hV => by
  rw [hS, hT]; exact (Ybd hV.1 hps nm ty hnm hty).mono fun e w' ⟨e1, lo2, e2⟩ => ⟨e1, lo2, hV.trans e2⟩
 have HGX := lh ((Xar.refl h).below hbx)
 have HBX := lh hBX
 have HX := lh hX
 have HSM := lh hsm
 have HTL := lh htl
 obtain ⟨LA, LC, hlo⟩ : ∃ A c, lo = .slice A ps.length c := by obtain ⟨A, c, h1, -⟩ := h.own.prs; exact ⟨A, c, h1⟩
 subst hlo
 obtain ⟨pn, hpn⟩ : ∃ q, q = ps.length := ⟨_, rfl⟩
 rw [← hpn] at HCE HENV HUT HHA HDE HTE HAD HGX HBX HSM ⊢
 have x0 := HBX.out.c0
 obtain ⟨x1, x2, x3⟩ := HCE.out X (Chg.refl _ _)
 clear hsm htl hS hT hX hbx hrow hBX hEX h he hst hpn
 go_enter Tryz.func91, Tryz.ntmps91
 go_upto_region 1 with fail
 rw [← HX.out]
 go_still_tail 8, (by kernel_rfl)
 change wpList _ _ _ _ _ X.drew
 go_upto_region 2 with (first
  | ((with_reducible refine HUT.out.mono ?_); rintro e w1 ⟨rfl, dv1, hw1⟩; have HW1 := lh hw1; obtain ⟨y1, y2, y3⟩ := HCE.out w1.drew (hw1.2.2.2.drew); have y0 : w1.drew.cell? ⟨bb, 0, none⟩ = some (.pointer (some ⟨b, 0, none⟩)) := hw1.1.c0; have y4 : w1.drew.cell? ⟨bb, 1, none⟩ = some (.slice LA pn LC) := hw1.1.c1; clear hw1))
 clear x0 x1 x2 x3 HUT
 go_cut [28] from 4 (fun s28 wx => s28 = .bool (decide (hasB ps nm = true ∨ (Xai ds nm).isSome = true)) ∧ Xar X bb b base x dv (.slice LA pn LC) wx dv1 (.slice LA pn LC) (l ++ Xbl ds p ty) left ps)
 case first =>
  have HH1 := lh (HHA.out w1.drew _ _ (HW1.out.below (Xau w1)).1)
  cases hq : hasB ps nm with
  | true =>
    rw [hq] at HH1
    have HD : Hid (decide (hasB ps nm = true ∨ (Xai ds nm).isSome = true) = true) := lh (decide_eq_true (.inl hq))
    refine wp_region_held_drew (S := fun w' => w'.cell? ⟨bb, 0, none⟩ = some (.pointer (some ⟨b, 0, none⟩)) ∧ w'.cell? ⟨bb, 1, none⟩ = some (.slice LA pn LC) ∧ w'.cell? ⟨w.heap.size, 2, none⟩ = some (.string S)) (by kernel_rfl) ⟨y0, y4, y2⟩ (fun hHeld => ?_)
    refine Xat (i := 0) (oi := _) (v := .pointer (some ⟨bb, 0, none⟩)) rfl rfl (by kernel_rfl) (by kernel_rfl) (by kernel_rfl) (fun _ _ _ h => h) (Or.inl ⟨by rfl, fun W hS => ?_⟩) hHeld ?_
    · obtain ⟨s0, s1, s2⟩ := hS
      go_simp
    simp only [List.setIfInBounds_toArray, List.set_cons_zero, List.set_cons_succ]
    refine Xat (i := 1) (oi := _) (v := .pointer (some ⟨bb, 0, none⟩)) rfl rfl (by kernel_rfl) (by kernel_rfl) (by kernel_rfl) (fun _ _ _ h => h) (Or.inl ⟨by rfl, fun W hS => ?_⟩) hHeld ?_
    · obtain ⟨s0, s1, s2⟩ := hS
      go_simp
    simp only [List.setIfInBounds_toArray, List.set_cons_zero, List.set_cons_succ]
    refine Xat (i := 2) (oi := _) (v := .pointer (some ⟨bb, 1, none⟩)) rfl rfl (by kernel_rfl) (by kernel_rfl) (by kernel_rfl) (fun _ _ _ h => h) (Or.inl ⟨by rfl, fun W hS => ?_⟩) hHeld ?_
    · obtain ⟨s0, s1, s2⟩ := hS
      go_simp
    simp only [List.setIfInBounds_toArray, List.set_cons_zero, List.set_cons_succ]
    refine Xat (i := 3) (oi := _) (v := .slice LA pn LC) rfl rfl (by kernel_rfl) (by kernel_rfl) (by kernel_rfl) (fun _ _ _ h => h) (Or.inl ⟨by rfl, fun W hS => ?_⟩) hHeld ?_
    · obtain ⟨s0, s1, s2⟩ := hS
      go_simp
    simp only [List.setIfInBounds_toArray, List.set_cons_zero, List.set_cons_succ]
    refine Xat (i := 4) (oi := _) (v := .pointer (some ⟨w.heap.size, 2, none⟩)) rfl rfl (by kernel_rfl) (by kernel_rfl) (by kernel_rfl) (fun _ _ _ h => h) (Or.inl ⟨by rfl, fun W hS => ?_⟩) hHeld ?_
    · obtain ⟨s0, s1, s2⟩ := hS
      go_simp
    simp only [List.setIfInBounds_toArray, List.set_cons_zero, List.set_cons_succ]
    refine Xat (i := 5) (oi := _) (v := .string S) rfl rfl (by kernel_rfl) (by kernel_rfl) (by kernel_rfl) (fun _ _ _ h => h) (Or.inl ⟨by rfl, fun W hS => ?_⟩) hHeld ?_
    · obtain ⟨s0, s1, s2⟩ := hS
      go_simp
    simp only [List.setIfInBounds_toArray, List.set_cons_zero, List.set_cons_succ]
    refine wpAnyH_ready (rs := [6]) (by kernel_rfl) (by simp) ?_
    refine AllReadyH.cons rfl (fun K hK => ?_) AllReadyH.nil
    go_simp
    refine HH1.out.mono ?_
    rintro e w2 ⟨rfl, hb2⟩
    have HW2 := lh ((HW1.out.below (Xau w1)).below hb2)
    obtain ⟨z1, z2, z3⟩ := HCE.out w2 HW2.out.2.2.2
    have z0 := HW2.out.1.c0
    have z4 := HW2.out.1.c1
    clear hb2 hHeld
    go_wp2_with fail
    refine hK.out _ _ ⟨z0, z4, z2⟩ (fun hHeld => ?_)
    clear hK K
    refine Xat (i := 7) (oi := _) (v := .bool true) rfl rfl (by kernel_rfl) (by kernel_rfl) (by kernel_rfl) (fun _ _ _ h => h) (Or.inl ⟨by rfl, fun W hS => ?_⟩) hHeld ?_
    · obtain ⟨s0, s1, s2⟩ := hS
      go_simp
    simp only [List.setIfInBounds_toArray, List.set_cons_zero, List.set_cons_succ]
    refine Xat (i := 8) (oi := _) (v := undef) rfl rfl (by kernel_rfl) (by kernel_rfl) (by kernel_rfl) (fun _ _ _ h => h) (Or.inr ⟨by kernel_rfl, rfl⟩) hHeld ?_
    simp only [List.setIfInBounds_toArray, List.set_cons_zero, List.set_cons_succ]
    refine Xat (i := 9) (oi := _) (v := undef) rfl rfl (by kernel_rfl) (by kernel_rfl) (by kernel_rfl) (fun _ _ _ h => h) (Or.inr ⟨by kernel_rfl, rfl⟩) hHeld ?_
    simp only [List.setIfInBounds_toArray, List.set_cons_zero, List.set_cons_succ]
    refine Xat (i := 10) (oi := _) (v := undef) rfl rfl (by kernel_rfl) (by kernel_rfl) (by kernel_rfl) (fun _ _ _ h => h) (Or.inr ⟨by kernel_rfl, rfl⟩) hHeld ?_
    simp only [List.setIfInBounds_toArray, List.set_cons_zero, List.set_cons_succ]
    refine Xat (i := 11) (oi := _) (v := undef) rfl rfl (by kernel_rfl) (by kernel_rfl) (by kernel_rfl) (fun _ _ _ h => h) (Or.inr ⟨by kernel_rfl, rfl⟩) hHeld ?_
    simp only [List.setIfInBounds_toArray, List.set_cons_zero, List.set_cons_succ]
    refine Xat (i := 12) (oi := _) (v := undef) rfl rfl (by kernel_rfl) (by kernel_rfl) (by kernel_rfl) (fun _ _ _ h => h) (Or.inr ⟨by kernel_rfl, rfl⟩) hHeld ?_
    simp only [List.setIfInBounds_toArray, List.set_cons_zero, List.set_cons_succ]
    refine Xat (i := 13) (oi := _) (v := undef) rfl rfl (by kernel_rfl) (by kernel_rfl) (by kernel_rfl) (fun _ _ _ h => h) (Or.inr ⟨by kernel_rfl, rfl⟩) hHeld ?_
    simp only [List.setIfInBounds_toArray, List.set_cons_zero, List.set_cons_succ]
    refine Xat (i := 14) (oi := _) (v := undef) rfl rfl (by kernel_rfl) (by kernel_rfl) (by kernel_rfl) (fun _ _ _ h => h) (Or.inr ⟨by kernel_rfl, rfl⟩) hHeld ?_
    simp only [List.setIfInBounds_toArray, List.set_cons_zero, List.set_cons_succ]
    refine Xat (i := 15) (oi := _) (v := .bool true) rfl rfl (by kernel_rfl) (by kernel_rfl) (by kernel_rfl) (fun _ _ _ h => h) (Or.inl ⟨by rfl, fun W hS => ?_⟩) hHeld ?_
    · obtain ⟨s0, s1, s2⟩ := hS
      go_simp
    simp only [List.setIfInBounds_toArray, List.set_cons_zero, List.set_cons_succ]
    refine wpAnyH_done (by kernel_rfl) ?_ _
    go_wp2
    go_meet
    case rel => exact ⟨by first | (rw [HD.out]; done) | exact congrArg Value.bool HD.out.symm, HW2.out⟩
  | false =>
    rw [hq] at HH1
    have HD : Hid (decide (hasB ps nm = true ∨ (Xai ds nm).isSome = true) = (Xai ds nm).isSome) := lh (by rw [hq]; simp)
    go_region_held3 (fun w' => w'.cell? ⟨bb, 0, none⟩ = some (.pointer (some ⟨b, 0, none⟩)) ∧ w'.cell? ⟨bb, 1, none⟩ = some (.slice LA pn LC) ∧ w'.cell? ⟨w.heap.size, 2, none⟩ = some (.string S)) (first | exact ⟨y0, y4, y2⟩ | with_reducible exact ⟨z0, z4, z2⟩ | go_keep)
     (first
       | (go_at_call 61; refine HH1.out.mono ?_; rintro e w2 ⟨rfl, hb2⟩; have HW2 := lh ((HW1.out.below (Xau w1)).below hb2); have HD2 := lh (HDE.out w2 _ _ HW2.out); obtain ⟨z1, z2, z3⟩ := HCE.out w2 HW2.out.2.2.2; have z0 := HW2.out.1.c0; have z4 := HW2.out.1.c1; clear hb2)
       | (go_at_call 62; refine HD2.out.mono ?_; rintro e w3 ⟨rfl, rfl⟩))
    all_goals
     go_wp2
     go_meet
     case rel => exact ⟨by first | (rw [HD.out]; done) | exact congrArg Value.bool HD.out.symm, HW2.out⟩
 case rest =>
  obtain ⟨rfl, hwc⟩ := hcut
  have HWC := lh hwc
  clear hwc y0 y1 y2 y3 y4 HW1
  obtain ⟨q, hq⟩ : ∃ q, q = decide (hasB ps nm = true ∨ (Xai ds nm).isSome = true) := ⟨_, rfl⟩
  rw [← hq]
  have HQ := lh hq
  clear hq
  obtain ⟨z1_5, z2_5, z3_5⟩ := HCE.out wc (HWC.out.2.2.2)
  have z0_5 := HWC.out.1.c0
  have z4_5 := HWC.out.1.c1
  cases q with
  | true =>
    have HFA : Hid ((if hasB ps nm = true ∨ (Xai ds nm).isSome = true then [(⟨p, 40, nm⟩ : Dg)] else []) = [⟨p, 40, nm⟩]) := lh (if_pos (of_decide_eq_true HQ.out.symm))
    go_upto_region 3 with fail
    have HT6 := lh (HTE.out wc.drew _ _ 40 (HWC.out.below (Xau _)) (by have := HTL.out; simp only [List.length_append, List.length_singleton]; omega))
    obtain ⟨t1_6, t2_6, t3_6⟩ := HCE.out wc.drew (HWC.out.2.2.2.drew)
    have t0_6 : wc.drew.cell? ⟨bb, 0, none⟩ = some (.pointer (some ⟨b, 0, none⟩)) := HWC.out.1.c0
    go_still_tail 8, (by kernel_rfl)
    change wpList _ _ _ _ _ wc.drew
    go_upto_region 4 with (first
     | ((with_reducible refine HT6.out.mono ?_); rintro e w4 ⟨rfl, dv4, hwt⟩; have HW4 := lh hwt; clear hwt))
    clear t0_6 t1_6 t2_6 t3_6 HT6
    obtain ⟨z1_7, z2_7, z3_7⟩ := HCE.out w4 (HW4.out.2.2.2)
    have z0_7 := HW4.out.1.c0
    have z4_7 := HW4.out.1.c1
    by_cases h32 : 32 ≤ pn
    · have HFB : Hid ((if 32 ≤ pn then [(⟨p, 22, nm⟩ : Dg)] else []) = [⟨p, 22, nm⟩]) := lh (if_pos h32)
      have hd : decide (32 ≤ pn) = true := decide_eq_true h32
      go_upto_region 5 with fail
      have HT8 := lh (HTE.out w4.drew _ _ 22 (HW4.out.below (Xau _)) (by have := HTL.out; simp only [List.length_append, List.length_singleton]; omega))
      obtain ⟨t1_8, t2_8, t3_8⟩ := HCE.out w4.drew (HW4.out.2.2.2.drew)
      have t0_8 : w4.drew.cell? ⟨bb, 0, none⟩ = some (.pointer (some ⟨b, 0, none⟩)) := HW4.out.1.c0
      go_still_tail 8, (by kernel_rfl)
      change wpList _ _ _ _ _ w4.drew
      go_upto_region 6 with (first
       | ((with_reducible refine HT8.out.mono ?_); rintro e w6 ⟨rfl, dv6, hwt⟩; have HW6 := lh hwt; clear hwt))
      clear t0_8 t1_8 t2_8 t3_8 HT8
      have HA9 := lh (HAD.out w6 _ _ HW6.out)
      obtain ⟨z1_9, z2_9, z3_9⟩ := HCE.out w6 (HW6.out.2.2.2)
      have z0_9 := HW6.out.1.c0
      have z4_9 := HW6.out.1.c1
      go_wp2_with (first
       | ((with_reducible refine HA9.out.mono ?_); rintro e w9 ⟨rfl, lo9, hw9⟩; have HW9 := lh hw9; clear hw9))
      go_end0
      have h9 := HGX.out.trans HW9.out
      rw [HSM.out, HFA.out, HFB.out]
      refine ⟨rfl, dv6, lo9, ?_⟩
      simpa using h9
    · have HFB : Hid ((if 32 ≤ pn then [(⟨p, 22, nm⟩ : Dg)] else []) = []) := lh (if_neg h32)
      have hd : decide (32 ≤ pn) = false := decide_eq_false h32
      have HA9 := lh (HAD.out w4 _ _ HW4.out)
      obtain ⟨z1_9, z2_9, z3_9⟩ := HCE.out w4 (HW4.out.2.2.2)
      have z0_9 := HW4.out.1.c0
      have z4_9 := HW4.out.1.c1
      go_wp2_with (first
       | ((with_reducible refine HA9.out.mono ?_); rintro e w9 ⟨rfl, lo9, hw9⟩; have HW9 := lh hw9; clear hw9))
      go_end0
      have h9 := HGX.out.trans HW9.out
      rw [HSM.out, HFA.out, HFB.out]
      refine ⟨rfl, dv4, lo9, ?_⟩
      simpa using h9
  | false =>
    have HFA : Hid ((if hasB ps nm = true ∨ (Xai ds nm).isSome = true then [(⟨p, 40, nm⟩ : Dg)] else []) = []) := lh (if_neg (of_decide_eq_false HQ.out.symm))
    by_cases h32 : 32 ≤ pn
    · have HFB : Hid ((if 32 ≤ pn then [(⟨p, 22, nm⟩ : Dg)] else []) = [⟨p, 22, nm⟩]) := lh (if_pos h32)
      have hd : decide (32 ≤ pn) = true := decide_eq_true h32
      go_upto_region 5 with fail
      have HT8 := lh (HTE.out wc.drew _ _ 22 (HWC.out.below (Xau _)) (by have := HTL.out; simp only [List.length_append, List.length_singleton]; omega))
      obtain ⟨t1_8, t2_8, t3_8⟩ := HCE.out wc.drew (HWC.out.2.2.2.drew)
      have t0_8 : wc.drew.cell? ⟨bb, 0, none⟩ = some (.pointer (some ⟨b, 0, none⟩)) := HWC.out.1.c0
      go_still_tail 8, (by kernel_rfl)
      change wpList _ _ _ _ _ wc.drew
      go_upto_region 6 with (first
       | ((with_reducible refine HT8.out.mono ?_); rintro e w6 ⟨rfl, dv6, hwt⟩; have HW6 := lh hwt; clear hwt))
      clear t0_8 t1_8 t2_8 t3_8 HT8
      have HA9 := lh (HAD.out w6 _ _ HW6.out)
      obtain ⟨z1_9, z2_9, z3_9⟩ := HCE.out w6 (HW6.out.2.2.2)
      have z0_9 := HW6.out.1.c0
      have z4_9 := HW6.out.1.c1
      go_wp2_with (first
       | ((with_reducible refine HA9.out.mono ?_); rintro e w9 ⟨rfl, lo9, hw9⟩; have HW9 := lh hw9; clear hw9))
      go_end0
      have h9 := HGX.out.trans HW9.out
      rw [HSM.out, HFA.out, HFB.out]
      refine ⟨rfl, dv6, lo9, ?_⟩
      simpa using h9
    · have HFB : Hid ((if 32 ≤ pn then [(⟨p, 22, nm⟩ : Dg)] else []) = []) := lh (if_neg h32)
      have hd : decide (32 ≤ pn) = false := decide_eq_false h32
      have HA9 := lh (HAD.out wc _ _ HWC.out)
      obtain ⟨z1_9, z2_9, z3_9⟩ := HCE.out wc (HWC.out.2.2.2)
      have z0_9 := HWC.out.1.c0
      have z4_9 := HWC.out.1.c1
      go_wp2_with (first
       | ((with_reducible refine HA9.out.mono ?_); rintro e w9 ⟨rfl, lo9, hw9⟩; have HW9 := lh hw9; clear hw9))
      go_end0
      have h9 := HGX.out.trans HW9.out
      rw [HSM.out, HFA.out, HFB.out]
      refine ⟨rfl, dv1, lo9, ?_⟩
      simpa using h9
theorem Xrs (ds : List Dc) (l : List Pr) (p : Int) (s : List UInt8) : (Xbw ds l p s).length ≤ 1 := by
 unfold Xbw
 split
 · exact Xht _ _ _ _
 · simp
theorem Xyl (ds : List Dc) (l : List Pr) (k p : Int) (nm ty : List UInt8) : (smD1 ds l k p nm ty).length ≤ 3 := by
 unfold smD1
 have h1 := Xfq ds p ty
 have h2 := fun ks => Xht ds p nm ks
 have h3 := Xrs ds l p ty
 split
 · rw [List.length_append, List.length_append]
   split <;> split <;> (simp; omega)
 · split
   · have := h2 [1]; omega
   · split
     · have := h2 [2]; omega
     · split
       · rw [List.length_append]; have := h2 [2]; omega
       · split
         · have := h2 [6]; omega
         · split
           · rw [List.length_append]; have := h2 [7]; omega
           · simp
theorem Xwt (l : List Pr) (s ty : List UInt8) : (addL l s ty).length ≤ l.length + 1 := by
 unfold addL
 split <;> simp
theorem Xyo (l : List Pr) (k : Int) (s ty : List UInt8) : (smL1 l k s ty).length ≤ l.length + 1 := by
 unfold smL1
 split
 · exact Xwt _ _ _
 · omega
mutual
theorem smD_len (ds : List Dc) : ∀ (l : List Pr) (s : Sm), (smD ds l s).1.length ≤ 3 * smW s ∧ (smD ds l s).2.length ≤ l.length + smW s
 | l, .mk k p nm ty ex bd el => by
   rw [smD, smW]
   have h1 := Xyl ds l k p nm ty
   have h2 := Xjy ds l ex
   have h3 := Xyo l k nm ty
   have h4 := Xhp ds (smL1 l k nm ty) bd
   have h5 := Xhp ds (smDs ds (smL1 l k nm ty) bd).2 el
   simp only [List.length_append]
   omega
theorem Xhp (ds : List Dc) : ∀ (l : List Pr) (ss : List Sm), (smDs ds l ss).1.length ≤ 3 * smWs ss ∧ (smDs ds l ss).2.length ≤ l.length + smWs ss
 | l, [] => by rw [smDs, smWs]; simp
 | l, s :: ss => by
   rw [smDs, smWs]
   have h1 := smD_len ds l s
   have h2 := Xhp ds (smD ds l s).2 ss
   simp only [List.length_append]
   omega
end
def Stms (w0 : World) (B : Nat) (ss : List Sm) (v : Value) : Prop :=
 ∀ (w : World) (bb b base : Nat) (x : Nm) (l : List Dg) (left : Int) (dv lo : Value) (ps : List Pr) (ds : List Dc), BdAt w bb b base x l left dv lo ps → Env w base x ds → B ≤ base → Below B w0 w → (smWs ss : Int) ≤ left → left ≤ 40000 → l.length + 3 * smWs ss ≤ 900000 → ps.length + smWs ss ≤ 900000 →
  Calls Tryz.prog 37 #[.pointer (some ⟨bb, 0, none⟩), v] w
   fun e w' => e = .returned (.tuple #[]) ∧ ∃ dv' lo', Xar w bb b base x dv lo w' dv' lo' (l ++ (smDs ds ps ss).1) (left - smWs ss) (smDs ds ps ss).2
set_option maxHeartbeats 4000000 in
set_option maxRecDepth 100000 in
theorem Yao {w0 : World} {B : Nat} {ex : List Ex} {bd el : List Sm} {A1 A2 A3 : Option Addr} {n1 n2 n3 c1 c2 c3 : Nat} (hex : Exps w0 B ex (.slice A1 n1 c1)) (hbo : Stms w0 B bd (.slice A2 n2 c2)) (hel : Stms w0 B el (.slice A3 n3 c3))
  {w : World} {bb b base : Nat} {x : Nm} {l : List Dg} {left : Int} {dv lo : Value} {ps : List Pr} {ds : List Dc} (h : BdAt w bb b base x l left dv lo ps) (he : Env w base x ds) (hBb : B ≤ base) (hb : Below B w0 w)
  (hle : ((exWs ex + smWs bd + smWs el : Nat) : Int) ≤ left) (hleft2 : left ≤ 40000) (hll : l.length + 3 * (1 + exWs ex + smWs bd + smWs el) ≤ 900000) (hps : ps.length + 1 + smWs bd + smWs el ≤ 900000)
  (k p : Int) (nm ty : List UInt8) (hnm : nm.length ≤ 40000) (hty : ty.length ≤ 40000) :
  Calls Tryz.prog 64 #[.pointer (some ⟨bb, 0, none⟩), .agg #[.int .i64 k, .int .i64 p, .string (Xab nm), .string (Xab ty), .slice A1 n1 c1, .slice A2 n2 c2, .slice A3 n3 c3]] w
   fun e w' => e = .returned (.tuple #[]) ∧ ∃ dv' lo', Xar w bb b base x dv lo w' dv' lo' (l ++ (smD ds ps (.mk k p nm ty ex bd el)).1) (left - exWs ex - smWs bd - smWs el) (smD ds ps (.mk k p nm ty ex bd el)).2 := by
 rw [smD]
 obtain ⟨D1, hD1⟩ : ∃ q, q = smD1 ds ps k p nm ty := ⟨_, rfl⟩
 obtain ⟨L1, hL1⟩ : ∃ q, q = smL1 ps k nm ty := ⟨_, rfl⟩
 have hd1 := Xyl ds ps k p nm ty
 have hl1 := Xyo ps k nm ty
 have hxl := Xjy ds ps ex
 rw [← hD1] at hd1
 rw [← hL1] at hl1
 obtain ⟨bq, hbq⟩ : ∃ q, q = smDs ds L1 bd := ⟨_, rfl⟩
 have hbl := Xhp ds L1 bd
 rw [← hbq] at hbl
 show Calls _ _ _ _ fun e w' => e = .returned (.tuple #[]) ∧ ∃ dv' lo', Xar w bb b base x dv lo w' dv' lo' (l ++ (exDs ds ps ex ++ smD1 ds ps k p nm ty ++ (smDs ds (smL1 ps k nm ty) bd).1 ++ (smDs ds (smDs ds (smL1 ps k nm ty) bd).2 el).1)) (left - exWs ex - smWs bd - smWs el) (smDs ds (smDs ds (smL1 ps k nm ty) bd).2 el).2
 rw [← hD1, ← hL1, ← hbq]
 obtain ⟨S, hS⟩ : ∃ q, q = Xab nm := ⟨_, rfl⟩
 obtain ⟨T, hT⟩ : ∃ q, q = Xab ty := ⟨_, rfl⟩
 rw [← hS, ← hT]
 obtain ⟨X, hX⟩ : ∃ X : World, X = w.alloc (.cells #[.int .i64 k, .int .i64 p, .string S, .string T, .slice A1 n1 c1, .slice A2 n2 c2, .slice A3 n3 c3] 68) := ⟨_, rfl⟩
 have hbx : Below w.heap.size w X := by rw [hX]; exact (Below.refl _ _).alloc (Nat.le_refl _) _
 have hrow : X.heap[w.heap.size]? = some (.cells #[.int .i64 k, .int .i64 p, .string S, .string T, .slice A1 n1 c1, .slice A2 n2 c2, .slice A3 n3 c3] 68 (0, 0)) := by rw [hX]; exact heap_alloc_new _ _
 have hBX := h.below hbx
 have hbase : base ≤ w.heap.size := by have := h.lt; have := h.bbb; omega
 have hEX := he.keep (hbx.mono hbase)
 have hWX : Below B w0 X := hb.trans (hbx.mono (by omega))
 have HCE : Hid (∀ V : World, Chg (Xhb bb b dv lo) X V → V.cell? ⟨w.heap.size, 0, none⟩ = some (.int .i64 k) ∧ V.cell? ⟨w.heap.size, 1, none⟩ = some (.int .i64 p) ∧ V.cell? ⟨w.heap.size, 2, none⟩ = some (.string S) ∧ V.cell? ⟨w.heap.size, 3, none⟩ = some (.string T) ∧
   V.cell? ⟨w.heap.size, 4, none⟩ = some (.slice A1 n1 c1) ∧ V.cell? ⟨w.heap.size, 5, none⟩ = some (.slice A2 n2 c2) ∧ V.cell? ⟨w.heap.size, 6, none⟩ = some (.slice A3 n3 c3)) := lh fun V hV => by
  have hn : ¬ Xhb bb b dv lo w.heap.size := fun hm => by have := (h.mine hm).2; omega
  have hk2 := (hV.block _ (Xac hrow) hn).trans hrow
  refine ⟨?_, ?_, ?_, ?_, ?_, ?_, ?_⟩
  · rw [cell_of_row V _ 0 _ _ (0, 0) hk2]; rfl
  · rw [cell_of_row V _ 1 _ _ (0, 0) hk2]; rfl
  · rw [cell_of_row V _ 2 _ _ (0, 0) hk2]; rfl
  · rw [cell_of_row V _ 3 _ _ (0, 0) hk2]; rfl
  · rw [cell_of_row V _ 4 _ _ (0, 0) hk2]; rfl
  · rw [cell_of_row V _ 5 _ _ (0, 0) hk2]; rfl
  · rw [cell_of_row V _ 6 _ _ (0, 0) hk2]; rfl
 have HENV : Hid (∀ (V : World) (dv' lo' : Value) (l' : List Dg) (lf' : Int) (ps' : List Pr), Xar X bb b base x dv lo V dv' lo' l' lf' ps' → Env V base x ds ∧ Below B w0 V) := lh fun V dv' lo' l' lf' ps' hV => ⟨hEX.keep (Xar.below_base hBX hV), hWX.trans ((Xar.below_base hBX hV).mono hBb)⟩
 have HEXP : Hid (Calls Tryz.prog 90 #[.pointer (some ⟨bb, 0, none⟩), .slice A1 n1 c1] X fun e w' => e = .returned (.tuple #[]) ∧ ∃ dv', Xar X bb b base x dv lo w' dv' lo (l ++ exDs ds ps ex) (left - exWs ex) ps) := lh (hex X bb b base x l left dv lo ps ds hBX hEX hBb hWX (by omega) hleft2 (by omega))
 have HBO : Hid (∀ (V : World) (dv' lo' : Value), Xar X bb b base x dv lo V dv' lo' (l ++ exDs ds ps ex ++ D1) (left - exWs ex) L1 → Calls Tryz.prog 37 #[.pointer (some ⟨bb, 0, none⟩), .slice A2 n2 c2] V fun e w' => e = .returned (.tuple #[]) ∧ ∃ dv2 lo2, Xar X bb b base x dv lo w' dv2 lo2 (l ++ exDs ds ps ex ++ D1 ++ bq.1) (left - exWs ex - smWs bd) bq.2) := lh fun V dv' lo' hV => by
  rw [hbq]
  exact (hbo V bb b base x _ _ dv' lo' L1 ds hV.1 (HENV.out _ _ _ _ _ _ hV).1 hBb (HENV.out _ _ _ _ _ _ hV).2 (by omega) (by omega) (by simp only [List.length_append]; omega) (by omega)).mono fun e w' ⟨e1, dv2, lo2, e2⟩ => ⟨e1, dv2, lo2, hV.trans e2⟩
 have HEL : Hid (∀ (V : World) (dv' lo' : Value), Xar X bb b base x dv lo V dv' lo' (l ++ exDs ds ps ex ++ D1 ++ bq.1) (left - exWs ex - smWs bd) bq.2 → Calls Tryz.prog 37 #[.pointer (some ⟨bb, 0, none⟩), .slice A3 n3 c3] V fun e w' => e = .returned (.tuple #[]) ∧ ∃ dv2 lo2, Xar X bb b base x dv lo w' dv2 lo2 (l ++ exDs ds ps ex ++ D1 ++ bq.1 ++ (smDs ds bq.2 el).1) (left - exWs ex - smWs bd - smWs el) (smDs ds bq.2 el).2) := lh fun V dv' lo' hV =>
  (hel V bb b base x _ _ dv' lo' bq.2 ds hV.1 (HENV.out _ _ _ _ _ _ hV).1 hBb (HENV.out _ _ _ _ _ _ hV).2 (by omega) (by omega) (by simp only [List.length_append]; omega) (by omega)).mono fun e w' ⟨e1, dv2, lo2, e2⟩ => ⟨e1, dv2, lo2, hV.trans e2⟩
 have HDEC : Hid (∀ (V : World) (dv' : Value), Xar X bb b base x dv lo V dv' lo (l ++ exDs ds ps ex) (left - exWs ex) ps → Calls Tryz.prog 91 #[.pointer (some ⟨bb, 0, none⟩), .agg #[.int .i64 k, .int .i64 p, .string S, .string T, .slice A1 n1 c1, .slice A2 n2 c2, .slice A3 n3 c3]] V fun e w' => e = .returned (.tuple #[]) ∧ ∃ dv2 lo2, Xar X bb b base x dv lo w' dv2 lo2 (l ++ exDs ds ps ex ++ smD1 ds ps 1 p nm ty) (left - exWs ex) (addL ps nm ty)) := lh fun V dv' hV => by
  rw [hS, hT]
  exact (Xuz hV.1 (HENV.out _ _ _ _ _ _ hV).1 (by simp only [List.length_append]; omega) (by omega) k p nm ty hnm hty _ _ _ _ _ _ _ _ _).mono fun e w' ⟨e1, dv2, lo2, e2⟩ => ⟨e1, dv2, lo2, hV.trans e2⟩
 have HUS : Hid (∀ (V : World) (dv' : Value) (ks : List Int) (kv : Value), Xdj V kv ks → Xar X bb b base x dv lo V dv' lo (l ++ exDs ds ps ex) (left - exWs ex) ps → Calls Tryz.prog 60 #[.pointer (some ⟨b, 0, none⟩), .int .i64 p, .string S, kv] V
   fun e w' => e = .returned (.tuple #[]) ∧ ∃ dv2, Xar X bb b base x dv lo w' dv2 lo (l ++ exDs ds ps ex ++ useD ds p nm ks) (left - exWs ex) ps) := lh fun V dv' ks kv hi hV => by
  rw [hS]
  exact (Xrt hV.1.nm (HENV.out _ _ _ _ _ _ hV).1 (by simp only [List.length_append]; omega) p nm hnm ks kv hi).mono fun e w' ⟨e1, dv2, e2⟩ => ⟨e1, dv2, hV.trans (hV.1.went e2)⟩
 have HUL : Hid (∀ (V : World) (dv' : Value) (ks : List Int), Xar X bb b base x dv lo V dv' lo (l ++ exDs ds ps ex ++ useD ds p nm ks) (left - exWs ex) ps → Calls Tryz.prog 92 #[.pointer (some ⟨bb, 0, none⟩), .int .i64 p, .string T] V
   fun e w' => e = .returned (.tuple #[]) ∧ ∃ dv2, Xar X bb b base x dv lo w' dv2 lo (l ++ exDs ds ps ex ++ useD ds p nm ks ++ Xbw ds ps p ty) (left - exWs ex) ps) := lh fun V dv' ks hV => by
  rw [hT]
  exact (Xum hV.1 (HENV.out _ _ _ _ _ _ hV).1 (by have := Xht ds p nm ks; simp only [List.length_append]; omega) p ty hty).mono fun e w' ⟨e1, dv2, e2⟩ => ⟨e1, dv2, hV.trans e2⟩
 have HGX := lh ((Xar.refl h).below hbx)
 have HX := lh hX
 have HD1 := lh hD1
 have HL1 := lh hL1
 obtain ⟨x0, x1, x2, x3, x4, x5, x6⟩ := HCE.out X (Chg.refl _ _)
 clear hS hT hX hbx hrow hBX hbase hEX hWX h he hb hex hbo hel hd1 hl1 hxl hbl hbq hle hleft2 hll hps hnm hty hD1 hL1
 go_enter Tryz.func64, Tryz.ntmps64
 go_upto_region 1 with fail
 rw [← HX.out]
 go_upto_block 0 with (first
  | ((with_reducible refine HEXP.out.mono ?_); rintro e w2 ⟨rfl, dv2, hw2⟩; have HW2 := lh hw2; obtain ⟨y0, y1, y2, y3, y4, y5, y6⟩ := HCE.out w2 (hw2.2.2.2); have yb := hw2.1.c0; clear hw2))
 clear x0 x1 x2 x3 x4 x5 x6 HEXP
 go_cut [] from 10 (fun wx => ∃ dv3 lo3, Xar X bb b base x dv lo wx dv3 lo3 (l ++ exDs ds ps ex ++ D1) (left - exWs ex) L1)
 case first =>
  by_cases k1 : k = 1
  · subst k1
    have HF : Hid (D1 = smD1 ds ps 1 p nm ty) := HD1
    have HL : Hid (L1 = addL ps nm ty) := lh (by rw [HL1.out]; unfold smL1; simp)
    have HDC := lh (HDEC.out w2 dv2 HW2.out)
    go_wp2_with (first
     | ((with_reducible refine HDC.out.mono ?_); rintro e w5 ⟨rfl, dv5, lo5, hw5⟩; have HW5 := lh hw5; clear hw5))
    go_meet
    case rel => exact ⟨dv5, lo5, by rw [HF.out, HL.out]; exact HW5.out⟩
  by_cases k5 : k = 5
  · subst k5
    have HF : Hid (D1 = useD ds p nm [1]) := lh (by rw [HD1.out]; unfold smD1; simp)
    have HL : Hid (L1 = ps) := lh (by rw [HL1.out]; unfold smL1; simp)
    go_upto_region 7 with fail
    have HYB : Hid (Xar X bb b base x dv lo ((w2.alloc (.cells #[.int .i64 1] 3)).drew) dv2 lo (l ++ exDs ds ps ex) (left - exWs ex) ps) := lh ((HW2.out.below ((Below.refl _ _).alloc (Nat.le_refl _) _)).below (Xau _))
    have HUC := lh (HUS.out ((w2.alloc (.cells #[.int .i64 1] 3)).drew) dv2 [1] _ ((Xdj.one w2 1).below (Xau _)) HYB.out)
    have gc0 : w2.drew.cell? ⟨bb, 0, none⟩ = some (.pointer (some ⟨b, 0, none⟩)) := HW2.out.1.c0
    obtain ⟨ge0, ge1, ge2, ge3, ge4, ge5, ge6⟩ := HCE.out w2.drew (HW2.out.2.2.2.drew)
    have hc0 := HYB.out.1.c0
    obtain ⟨he0, he1, he2, he3, he4, he5, he6⟩ := HCE.out _ HYB.out.2.2.2
    clear y4 y5 y6 ge0 ge3 ge4 ge5 ge6 he0 he3 he4 he5 he6
    go_region_law (first
     | (go_simp
        go_at_call 60
        refine HUC.out.mono ?_
        rintro e w5 ⟨rfl, dv5, hw5⟩
        have HW5 := lh hw5
        clear hw5))
    all_goals clear gc0 ge1 ge2 hc0 he1 he2 HYB HUC
    all_goals
     go_wp2
     go_meet
     case rel => exact ⟨dv5, lo, by rw [HF.out, HL.out]; exact HW5.out⟩
  by_cases k6 : k = 6
  · subst k6
    have HF : Hid (D1 = useD ds p nm [1]) := lh (by rw [HD1.out]; unfold smD1; simp)
    have HL : Hid (L1 = ps) := lh (by rw [HL1.out]; unfold smL1; simp)
    go_upto_region 7 with fail
    have HYB : Hid (Xar X bb b base x dv lo ((w2.alloc (.cells #[.int .i64 1] 3)).drew) dv2 lo (l ++ exDs ds ps ex) (left - exWs ex) ps) := lh ((HW2.out.below ((Below.refl _ _).alloc (Nat.le_refl _) _)).below (Xau _))
    have HUC := lh (HUS.out ((w2.alloc (.cells #[.int .i64 1] 3)).drew) dv2 [1] _ ((Xdj.one w2 1).below (Xau _)) HYB.out)
    have gc0 : w2.drew.cell? ⟨bb, 0, none⟩ = some (.pointer (some ⟨b, 0, none⟩)) := HW2.out.1.c0
    obtain ⟨ge0, ge1, ge2, ge3, ge4, ge5, ge6⟩ := HCE.out w2.drew (HW2.out.2.2.2.drew)
    have hc0 := HYB.out.1.c0
    obtain ⟨he0, he1, he2, he3, he4, he5, he6⟩ := HCE.out _ HYB.out.2.2.2
    clear y4 y5 y6 ge0 ge3 ge4 ge5 ge6 he0 he3 he4 he5 he6
    go_region_law (first
     | (go_simp
        go_at_call 60
        refine HUC.out.mono ?_
        rintro e w5 ⟨rfl, dv5, hw5⟩
        have HW5 := lh hw5
        clear hw5))
    all_goals clear gc0 ge1 ge2 hc0 he1 he2 HYB HUC
    all_goals
     go_wp2
     go_meet
     case rel => exact ⟨dv5, lo, by rw [HF.out, HL.out]; exact HW5.out⟩
  by_cases k7 : k = 7
  · subst k7
    have HF : Hid (D1 = useD ds p nm [2]) := lh (by rw [HD1.out]; unfold smD1; simp)
    have HL : Hid (L1 = ps) := lh (by rw [HL1.out]; unfold smL1; simp)
    go_upto_region 9 with fail
    have HYB : Hid (Xar X bb b base x dv lo ((w2.alloc (.cells #[.int .i64 2] 3)).drew) dv2 lo (l ++ exDs ds ps ex) (left - exWs ex) ps) := lh ((HW2.out.below ((Below.refl _ _).alloc (Nat.le_refl _) _)).below (Xau _))
    have HUC := lh (HUS.out ((w2.alloc (.cells #[.int .i64 2] 3)).drew) dv2 [2] _ ((Xdj.one w2 2).below (Xau _)) HYB.out)
    have gc0 : w2.drew.cell? ⟨bb, 0, none⟩ = some (.pointer (some ⟨b, 0, none⟩)) := HW2.out.1.c0
    obtain ⟨ge0, ge1, ge2, ge3, ge4, ge5, ge6⟩ := HCE.out w2.drew (HW2.out.2.2.2.drew)
    have hc0 := HYB.out.1.c0
    obtain ⟨he0, he1, he2, he3, he4, he5, he6⟩ := HCE.out _ HYB.out.2.2.2
    clear y4 y5 y6 ge0 ge3 ge4 ge5 ge6 he0 he3 he4 he5 he6
    go_region_law (first
     | (go_simp
        go_at_call 60
        refine HUC.out.mono ?_
        rintro e w5 ⟨rfl, dv5, hw5⟩
        have HW5 := lh hw5
        clear hw5))
    all_goals clear gc0 ge1 ge2 hc0 he1 he2 HYB HUC
    all_goals
     go_wp2
     go_meet
     case rel => exact ⟨dv5, lo, by rw [HF.out, HL.out]; exact HW5.out⟩
  by_cases k8 : k = 8
  · subst k8
    have HF : Hid (D1 = useD ds p nm [2] ++ Xbw ds ps p ty) := lh (by rw [HD1.out]; unfold smD1; simp)
    have HL : Hid (L1 = ps) := lh (by rw [HL1.out]; unfold smL1; simp)
    go_upto_region 11 with fail
    have HYB : Hid (Xar X bb b base x dv lo ((w2.alloc (.cells #[.int .i64 2] 3)).drew) dv2 lo (l ++ exDs ds ps ex) (left - exWs ex) ps) := lh ((HW2.out.below ((Below.refl _ _).alloc (Nat.le_refl _) _)).below (Xau _))
    have HUC := lh (HUS.out ((w2.alloc (.cells #[.int .i64 2] 3)).drew) dv2 [2] _ ((Xdj.one w2 2).below (Xau _)) HYB.out)
    have gc0 : w2.drew.cell? ⟨bb, 0, none⟩ = some (.pointer (some ⟨b, 0, none⟩)) := HW2.out.1.c0
    obtain ⟨ge0, ge1, ge2, ge3, ge4, ge5, ge6⟩ := HCE.out w2.drew (HW2.out.2.2.2.drew)
    have hc0 := HYB.out.1.c0
    obtain ⟨he0, he1, he2, he3, he4, he5, he6⟩ := HCE.out _ HYB.out.2.2.2
    clear y4 y5 y6 ge0 ge3 ge4 ge5 ge6 he0 he3 he4 he5 he6
    go_region_law (first
     | (go_simp
        go_at_call 60
        refine HUC.out.mono ?_
        rintro e w5 ⟨rfl, dv5, hw5⟩
        have HW5 := lh hw5
        clear hw5))
    all_goals clear gc0 ge1 ge2 hc0 he1 he2 HYB HUC
    all_goals
     obtain ⟨e0, e1, e2, e3, e4, e5, e6⟩ := HCE.out w5 HW5.out.2.2.2
     have HUC2 := lh (HUL.out w5 dv5 [2] HW5.out)
     clear e0 e2 e4 e5 e6
     go_wp2_with (first
      | ((with_reducible refine HUC2.out.mono ?_); rintro e w6 ⟨rfl, dv6, hw6⟩; have HW6 := lh hw6; clear hw6))
     go_meet
     case rel => exact ⟨dv6, lo, by rw [HF.out, HL.out, ← List.append_assoc]; exact HW6.out⟩
  by_cases k9 : k = 9
  · subst k9
    have HF : Hid (D1 = useD ds p nm [6]) := lh (by rw [HD1.out]; unfold smD1; simp)
    have HL : Hid (L1 = ps) := lh (by rw [HL1.out]; unfold smL1; simp)
    go_upto_region 14 with fail
    have HYB : Hid (Xar X bb b base x dv lo ((w2.alloc (.cells #[.int .i64 6] 3)).drew) dv2 lo (l ++ exDs ds ps ex) (left - exWs ex) ps) := lh ((HW2.out.below ((Below.refl _ _).alloc (Nat.le_refl _) _)).below (Xau _))
    have HUC := lh (HUS.out ((w2.alloc (.cells #[.int .i64 6] 3)).drew) dv2 [6] _ ((Xdj.one w2 6).below (Xau _)) HYB.out)
    have gc0 : w2.drew.cell? ⟨bb, 0, none⟩ = some (.pointer (some ⟨b, 0, none⟩)) := HW2.out.1.c0
    obtain ⟨ge0, ge1, ge2, ge3, ge4, ge5, ge6⟩ := HCE.out w2.drew (HW2.out.2.2.2.drew)
    have hc0 := HYB.out.1.c0
    obtain ⟨he0, he1, he2, he3, he4, he5, he6⟩ := HCE.out _ HYB.out.2.2.2
    clear y4 y5 y6 ge0 ge3 ge4 ge5 ge6 he0 he3 he4 he5 he6
    go_region_law (first
     | (go_simp
        go_at_call 60
        refine HUC.out.mono ?_
        rintro e w5 ⟨rfl, dv5, hw5⟩
        have HW5 := lh hw5
        clear hw5))
    all_goals clear gc0 ge1 ge2 hc0 he1 he2 HYB HUC
    all_goals
     go_wp2
     go_meet
     case rel => exact ⟨dv5, lo, by rw [HF.out, HL.out]; exact HW5.out⟩
  by_cases k10 : k = 10
  · subst k10
    have HF : Hid (D1 = useD ds p nm [7] ++ Xbw ds ps p ty) := lh (by rw [HD1.out]; unfold smD1; simp)
    have HL : Hid (L1 = ps) := lh (by rw [HL1.out]; unfold smL1; simp)
    go_upto_region 16 with fail
    have HYB : Hid (Xar X bb b base x dv lo ((w2.alloc (.cells #[.int .i64 7] 3)).drew) dv2 lo (l ++ exDs ds ps ex) (left - exWs ex) ps) := lh ((HW2.out.below ((Below.refl _ _).alloc (Nat.le_refl _) _)).below (Xau _))
    have HUC := lh (HUS.out ((w2.alloc (.cells #[.int .i64 7] 3)).drew) dv2 [7] _ ((Xdj.one w2 7).below (Xau _)) HYB.out)
    have gc0 : w2.drew.cell? ⟨bb, 0, none⟩ = some (.pointer (some ⟨b, 0, none⟩)) := HW2.out.1.c0
    obtain ⟨ge0, ge1, ge2, ge3, ge4, ge5, ge6⟩ := HCE.out w2.drew (HW2.out.2.2.2.drew)
    have hc0 := HYB.out.1.c0
    obtain ⟨he0, he1, he2, he3, he4, he5, he6⟩ := HCE.out _ HYB.out.2.2.2
    clear y4 y5 y6 ge0 ge3 ge4 ge5 ge6 he0 he3 he4 he5 he6
    go_region_law (first
     | (go_simp
        go_at_call 60
        refine HUC.out.mono ?_
        rintro e w5 ⟨rfl, dv5, hw5⟩
        have HW5 := lh hw5
        clear hw5))
    all_goals clear gc0 ge1 ge2 hc0 he1 he2 HYB HUC
    all_goals
     obtain ⟨e0, e1, e2, e3, e4, e5, e6⟩ := HCE.out w5 HW5.out.2.2.2
     have HUC2 := lh (HUL.out w5 dv5 [7] HW5.out)
     clear e0 e2 e4 e5 e6
     go_wp2_with (first
      | ((with_reducible refine HUC2.out.mono ?_); rintro e w6 ⟨rfl, dv6, hw6⟩; have HW6 := lh hw6; clear hw6))
     go_meet
     case rel => exact ⟨dv6, lo, by rw [HF.out, HL.out, ← List.append_assoc]; exact HW6.out⟩
  have q1 : (k == 1) = false := by simp; exact k1
  have q5 : (k == 5) = false := by simp; exact k5
  have q6 : (k == 6) = false := by simp; exact k6
  have q7 : (k == 7) = false := by simp; exact k7
  have q8 : (k == 8) = false := by simp; exact k8
  have q9 : (k == 9) = false := by simp; exact k9
  have q10 : (k == 10) = false := by simp; exact k10
  have HF : Hid (D1 = []) := lh (by rw [HD1.out]; unfold smD1; simp [k1, k5, k6, k7, k8, k9, k10])
  have HL : Hid (L1 = ps) := lh (by rw [HL1.out]; unfold smL1; simp [k1])
  clear k1 k5 k6 k7 k8 k9 k10
  go_wp2
  go_meet
  case rel => exact ⟨dv2, lo, by rw [HF.out, HL.out, List.append_nil]; exact HW2.out⟩
 case rest =>
  obtain ⟨dv3, lo3, hwc⟩ := hcut
  have HWC := lh hwc
  have HBO2 := lh (HBO.out wc _ _ hwc)
  obtain ⟨u0, u1, u2, u3, u4, u5, u6⟩ := HCE.out wc hwc.2.2.2
  clear hwc y0 y1 y2 y3 y4 y5 y6 yb HBO u0 u1 u2 u3 u4 HW2
  go_wp2_with (first
   | ((with_reducible refine HBO2.out.mono ?_); rintro e w5 ⟨rfl, dv5, lo5, hw5⟩; have HEL2 := lh (HEL.out w5 _ _ hw5); obtain ⟨v0, v1, v2, v3, v4, v5, v6⟩ := HCE.out w5 hw5.2.2.2; clear hw5 v0 v1 v2 v3 v4)
   | ((with_reducible refine HEL2.out.mono ?_); rintro e w6 ⟨rfl, dv6, lo6, hw6⟩; have HW6 := lh hw6; clear hw6))
  go_end0
  have h9 := HGX.out.trans HW6.out
  exact ⟨rfl, _, _, by simpa [List.append_assoc] using h9⟩
theorem Yfr (s : Sm) : smW s = 1 + s.name.length + s.type.length + exWs s.exprs + smWs s.body + smWs s.els := by cases s with | mk k p nm ty ex bd el => rw [smW]; rfl
theorem Xro : ∀ a b : List Sm, smWs (a ++ b) = smWs a + smWs b
 | [], b => by rw [smWs]; simp
 | e :: a, b => by rw [List.cons_append, smWs, smWs, Xro a b]; omega
theorem Xyn (ds : List Dc) : ∀ (l : List Pr) (a b : List Sm), smDs ds l (a ++ b) = ((smDs ds l a).1 ++ (smDs ds (smDs ds l a).2 b).1, (smDs ds (smDs ds l a).2 b).2)
 | l, [], b => by rw [smDs]; simp
 | l, e :: a, b => by rw [List.cons_append, smDs, smDs, Xyn ds _ a b]; simp [List.append_assoc]
theorem Yfq (ds : List Dc) (l : List Pr) {ss : List Sm} {j : Nat} (hj : j < ss.length) : smDs ds l (ss.take (j + 1)) = ((smDs ds l (ss.take j)).1 ++ (smD ds (smDs ds l (ss.take j)).2 ss[j]).1, (smD ds (smDs ds l (ss.take j)).2 ss[j]).2) := by
 rw [List.take_succ_eq_append_getElem hj, Xyn, smDs, smDs]; simp
theorem Yfs {ss : List Sm} {j : Nat} (hj : j < ss.length) : smWs (ss.take (j + 1)) = smWs (ss.take j) + smW ss[j] := by
 rw [List.take_succ_eq_append_getElem hj, Xro, smWs, smWs, Nat.add_zero]
theorem Xuh (ss : List Sm) (j : Nat) : smWs (ss.take j) ≤ smWs ss := by
 have := Xro (ss.take j) (ss.drop j)
 rw [List.take_append_drop] at this
 omega
set_option maxHeartbeats 4000000 in
set_option maxRecDepth 100000 in
theorem Ygc {w0 : World} {B : Nat} {ss : List Sm} {v : Value} (h : Xay w0 (· < B) ss v) : Stms w0 B ss v := by
 induction h with
 | mk ss A c fe fb fl hc hM hA he hbd hel ihb ihl =>
   intro w bb b base x l left dv lo ps ds hbb henv hBb hb hleft hleft2 hll hpl
   obtain ⟨n, hn⟩ : ∃ n, n = ss.length := ⟨_, rfl⟩
   rw [← hn] at hc ⊢
   have hn2 : n ≤ c := hc
   have HN := lh hn
   have HB := lh hb
   have HA := lh hA
   have HIB := lh ihb
   have HIL := lh ihl
   have HEE := lh he
   have HBB := lh hbd
   have HLL2 := lh hel
   have HBD := lh hbb
   have HEN := lh henv
   have HLL := lh hll
   have HPL := lh hpl
   have HLF := lh hleft
   clear hn hb hA ihb ihl he hbd hel hbb henv hll hleft hpl
   go_enter Tryz.func37, Tryz.ntmps37
   go_wp2
   go_loopw [8] (fun i wr => ∃ (j : Nat) (dvj loj : Value), j ≤ n ∧ i = .int .i64 j ∧ Hid (Xar w bb b base x dv lo wr dvj loj (l ++ (smDs ds ps (ss.take j)).1) (left - smWs (ss.take j)) (smDs ds ps (ss.take j)).2)) (fun i _ => n - (intOf i).toNat)
   case atStart => exact ⟨0, dv, lo, Nat.zero_le _, rfl, lh (by rw [List.take_zero, smDs, smWs, List.append_nil]; simpa using Xar.refl HBD.out)⟩
   case round =>
    obtain ⟨wo, rfl⟩ : ∃ wo : World, wo = wr := ⟨_, rfl⟩
    obtain ⟨j, dvj, loj, hj, rfl, HW⟩ := hrel
    by_cases hlt : j < n
    · have hje : j < ss.length := by rw [← HN.out]; exact hlt
      obtain ⟨pb, off, rfl, hpb, hnl, htl, p0, p1, p2, p3, p4, p5, p6⟩ := HA.out j hje
      have hbe := Xar.below_base HBD.out HW.out
      have hpc : ∀ i, wo.cell? ⟨pb, i, none⟩ = w0.cell? ⟨pb, i, none⟩ := fun i => World.cell?_of_block ((hbe.block pb (by omega)).trans (HB.out.block pb hpb))
      have r0 := (hpc _).trans p0
      have r1 := (hpc _).trans p1
      have r2 := (hpc _).trans p2
      have r3 := (hpc _).trans p3
      have r4 := (hpc _).trans p4
      have r5 := (hpc _).trans p5
      have r6 := (hpc _).trans p6
      have hdt := Yfq ds ps hje
      have hwt := Yfs hje
      have hwl := Xuh ss (j + 1)
      have hex := Yct (HEE.out j hje)
      have hbo := HIB.out j hje
      have hel := HIL.out j hje
      obtain ⟨A1, c1, hs1, -, -⟩ := (HEE.out j hje).slice
      obtain ⟨A2, c2, hs2, -, -⟩ := (HBB.out j hje).slice
      obtain ⟨A3, c3, hs3, -, -⟩ := (HLL2.out j hje).slice
      obtain ⟨n1, hn1⟩ : ∃ q, q = ss[j].exprs.length := ⟨_, rfl⟩
      obtain ⟨n2, hn2'⟩ : ∃ q, q = ss[j].body.length := ⟨_, rfl⟩
      obtain ⟨n3, hn3⟩ : ∃ q, q = ss[j].els.length := ⟨_, rfl⟩
      rw [← hn1] at hs1
      rw [← hn2'] at hs2
      rw [← hn3] at hs3
      rw [hs1] at r4 hex
      rw [hs2] at r5 hbo
      rw [hs3] at r6 hel
      obtain ⟨E, hE⟩ : ∃ E, E = ss[j] := ⟨_, rfl⟩
      rw [← hE] at r0 r1 r2 r3 hdt hwt hex hbo hel hnl htl
      have hep := Yfr E
      have heq : E = .mk E.kind E.pl E.name E.type E.exprs E.body E.els := by cases E; rfl
      have hsl := Xhp ds ps (ss.take j)
      obtain ⟨k, hk⟩ : ∃ q, q = E.kind := ⟨_, rfl⟩
      obtain ⟨p, hp⟩ : ∃ q, q = E.pl := ⟨_, rfl⟩
      obtain ⟨nm, hnm⟩ : ∃ q, q = E.name := ⟨_, rfl⟩
      obtain ⟨ty, hty⟩ : ∃ q, q = E.type := ⟨_, rfl⟩
      obtain ⟨ex, hxe⟩ : ∃ q, q = E.exprs := ⟨_, rfl⟩
      obtain ⟨bd, hbd⟩ : ∃ q, q = E.body := ⟨_, rfl⟩
      obtain ⟨el, hle⟩ : ∃ q, q = E.els := ⟨_, rfl⟩
      rw [← hk, ← hp, ← hnm, ← hty, ← hxe, ← hbd, ← hle] at heq
      rw [← hnm, ← hty, ← hxe, ← hbd, ← hle] at hep
      rw [← hxe] at hex
      rw [← hbd] at hbo
      rw [← hle] at hel
      rw [← hk] at r0
      rw [← hp] at r1
      rw [← hnm] at r2
      rw [← hty] at r3
      rw [heq] at hdt
      obtain ⟨S, hS⟩ : ∃ q, q = Xab nm := ⟨_, rfl⟩
      obtain ⟨T, hT⟩ : ∃ q, q = Xab ty := ⟨_, rfl⟩
      rw [← hS] at r2
      rw [← hT] at r3
      obtain ⟨L0, hL0⟩ : ∃ q, q = l ++ (smDs ds ps (ss.take j)).1 := ⟨_, rfl⟩
      obtain ⟨P0, hP0⟩ : ∃ q, q = (smDs ds ps (ss.take j)).2 := ⟨_, rfl⟩
      obtain ⟨lf, hlf⟩ : ∃ q : Int, q = left - smWs (ss.take j) := ⟨_, rfl⟩
      rw [← hL0, ← hlf, ← hP0] at HW
      rw [← hP0] at hdt hsl
      have hll := HLL.out
      have hpl := HPL.out
      have hlf0 := HLF.out
      have hLn : L0.length + 3 * smW E ≤ 900000 := by rw [hL0, List.length_append]; omega
      have hPn : P0.length + smW E ≤ 900000 := by omega
      have hlf1 : (smW E : Int) ≤ lf := by omega
      have hlf2 : lf ≤ 40000 := by omega
      have hnx : l ++ (smDs ds ps (ss.take (j + 1))).1 = L0 ++ (smD ds P0 (.mk k p nm ty ex bd el)).1 := by rw [hdt, hL0, List.append_assoc]
      have hny : (smDs ds ps (ss.take (j + 1))).2 = (smD ds P0 (.mk k p nm ty ex bd el)).2 := by rw [hdt]
      have hnw : left - (smWs (ss.take (j + 1)) : Nat) = lf - (1 + nm.length + ty.length : Nat) - exWs ex - smWs bd - smWs el := by rw [hwt, hep, hlf]; omega
      obtain ⟨X, hX⟩ : ∃ X : World, X = wo.alloc (.cells #[.int .i64 k, .int .i64 p, .string S, .string T, .slice A1 n1 c1, .slice A2 n2 c2, .slice A3 n3 c3] 68) := ⟨_, rfl⟩
      have hbx : Below wo.heap.size wo X := by rw [hX]; exact (Below.refl _ _).alloc (Nat.le_refl _) _
      have hrow : X.heap[wo.heap.size]? = some (.cells #[.int .i64 k, .int .i64 p, .string S, .string T, .slice A1 n1 c1, .slice A2 n2 c2, .slice A3 n3 c3] 68 (0, 0)) := by rw [hX]; exact heap_alloc_new _ _
      have hBX := HW.out.1.below hbx
      have hbw : base ≤ wo.heap.size := by have := HBD.out.lt; have := HBD.out.bbb; have := hbe.size; omega
      have hEX := HEN.out.keep (hbe.trans (hbx.mono hbw))
      have HCE : Hid (∀ V : World, Chg (Xhb bb b dvj loj) X V → V.cell? ⟨wo.heap.size, 0, none⟩ = some (.int .i64 k) ∧ V.cell? ⟨wo.heap.size, 1, none⟩ = some (.int .i64 p) ∧ V.cell? ⟨wo.heap.size, 2, none⟩ = some (.string S) ∧ V.cell? ⟨wo.heap.size, 3, none⟩ = some (.string T) ∧
        V.cell? ⟨wo.heap.size, 4, none⟩ = some (.slice A1 n1 c1) ∧ V.cell? ⟨wo.heap.size, 5, none⟩ = some (.slice A2 n2 c2) ∧ V.cell? ⟨wo.heap.size, 6, none⟩ = some (.slice A3 n3 c3)) := lh fun V hV => by
       have hn : ¬ Xhb bb b dvj loj wo.heap.size := fun hm => by have := (HW.out.1.mine hm).2; omega
       have hk2 := (hV.block _ (Xac hrow) hn).trans hrow
       refine ⟨?_, ?_, ?_, ?_, ?_, ?_, ?_⟩
       · rw [cell_of_row V _ 0 _ _ (0, 0) hk2]; rfl
       · rw [cell_of_row V _ 1 _ _ (0, 0) hk2]; rfl
       · rw [cell_of_row V _ 2 _ _ (0, 0) hk2]; rfl
       · rw [cell_of_row V _ 3 _ _ (0, 0) hk2]; rfl
       · rw [cell_of_row V _ 4 _ _ (0, 0) hk2]; rfl
       · rw [cell_of_row V _ 5 _ _ (0, 0) hk2]; rfl
       · rw [cell_of_row V _ 6 _ _ (0, 0) hk2]; rfl
      have hwo : Below B w0 X := HB.out.trans ((hbe.mono hBb).trans (hbx.mono (by omega)))
      have hnml : nm.length ≤ 40000 := by omega
      have htyl : ty.length ≤ 40000 := by omega
      have HMO : Hid (Calls Tryz.prog 22 #[.pointer (some ⟨b, 0, none⟩), .string S, .string T] X.drew fun e w' => e = .returned (.bool true) ∧ Xar X bb b base x dvj loj w' dvj loj L0 (lf - (1 + nm.length + ty.length : Nat)) P0) := lh (by
       have h1 := Xmn (hBX.nm.below (Xau X)) nm ty (by omega) (by omega) (by omega) (by omega)
       rw [decide_eq_true (by omega), ← hS, ← hT] at h1
       exact h1.mono fun e w' ⟨e1, e2⟩ => ⟨e1, ((Xar.refl hBX).below (Xau X)).trans ((hBX.below (Xau X)).went e2)⟩)
      have HST : Hid (∀ V : World, Xar X bb b base x dvj loj V dvj loj L0 (lf - (1 + nm.length + ty.length : Nat)) P0 → Calls Tryz.prog 64 #[.pointer (some ⟨bb, 0, none⟩), .agg #[.int .i64 k, .int .i64 p, .string S, .string T, .slice A1 n1 c1, .slice A2 n2 c2, .slice A3 n3 c3]] V
        fun e w' => e = .returned (.tuple #[]) ∧ ∃ dv' lo', Xar X bb b base x dvj loj w' dv' lo' (L0 ++ (smD ds P0 (.mk k p nm ty ex bd el)).1) (lf - (1 + nm.length + ty.length : Nat) - exWs ex - smWs bd - smWs el) (smD ds P0 (.mk k p nm ty ex bd el)).2) := lh fun V hV => by
       rw [hS, hT]
       have hbv := Xar.below_base hBX hV
       exact (Yao hex hbo hel hV.1 (hEX.keep hbv) hBb (hwo.trans (hbv.mono hBb)) (by omega) (by omega) (by omega) (by omega) k p nm ty hnml htyl).mono fun e w' ⟨e1, dv2, lo2, e2⟩ => ⟨e1, dv2, lo2, hV.trans e2⟩
      have HGX := lh (HW.out.below hbx)
      have HX := lh hX
      have HNX := lh hnx
      have HNY := lh hny
      have HNW := lh hnw
      have c0X := hBX.c0
      obtain ⟨x0, x1, x2, x3, x4, x5, x6⟩ := HCE.out X (Chg.refl _ _)
      clear hje hpc p0 p1 p2 p3 p4 p5 p6 hbe hdt hwt hwl hex hbo hel hs1 hs2 hs3 hn1 hn2' hn3 hE hep heq hsl hk hp hnm hty hxe hbd hle hS hT hL0 hP0 hlf hll hpl hlf0 hLn hPn hlf1 hlf2 hnx hny hnw hX hbx hrow hBX hbw hEX hwo hnml htyl hnl htl
      go_upto_region 3 with fail
      rw [← HX.out]
      go_still_tail 8, (by kernel_rfl)
      change wpList _ _ _ _ _ X.drew
      go_wp2_with (first
       | ((with_reducible refine HMO.out.mono ?_); rintro e w1 ⟨rfl, hw1⟩; have HS1 := lh (HST.out w1 hw1); obtain ⟨y0, y1, y2, y3, y4, y5, y6⟩ := HCE.out w1 hw1.2.2.2; clear hw1)
       | ((with_reducible refine HS1.out.mono ?_); rintro e w2 ⟨rfl, dv2, lo2, hw2⟩; have HW2 := lh hw2; clear hw2))
      go_roundw
      case rel => exact ⟨j + 1, dv2, lo2, by omega, by go_num, lh (by rw [HNX.out, HNY.out, HNW.out]; exact HGX.out.trans HW2.out)⟩
      case measure => first | (simp [intOf]; done) | (simp [intOf]; omega)
    · have HT : Hid (ss.take j = ss) := lh (List.take_of_length_le (by rw [← HN.out]; omega))
      go_wp2
      go_end0
      have := HW.out
      rw [HT.out] at this
      exact ⟨rfl, _, _, this⟩
def Xow (l : List Pr) (qs : List Pr) : List Pr := qs.foldl (fun l q => addL l q.name q.type) l
theorem Xyu (l : List Pr) {qs : List Pr} {j : Nat} (hj : j < qs.length) : Xow l (qs.take (j + 1)) = addL (Xow l (qs.take j)) qs[j].name qs[j].type := by
 rw [List.take_succ_eq_append_getElem hj]; unfold Xow; rw [List.foldl_append]; rfl
theorem Xmv : ∀ (qs l : List Pr), (Xow l qs).length ≤ l.length + qs.length
 | [], l => by simp [Xow]
 | q :: qs, l => by
   have h1 := Xmv qs (addL l q.name q.type)
   have h2 := Xwt l q.name q.type
   show (Xow (addL l q.name q.type) qs).length ≤ _
   rw [List.length_cons]
   omega
theorem prWs_get {qs : List Pr} {j : Nat} (hj : j < qs.length) : 1 + qs[j].name.length + qs[j].type.length ≤ prWs qs := by
 have : ∀ (qs : List Pr) (q : Pr), q ∈ qs → prW q ≤ prWs qs := fun qs => by
  induction qs with
  | nil => intro q h; cases h
  | cons a l ih =>
    intro q h
    have e : prWs (a :: l) = prW a + prWs l := by simp [prWs]
    rcases List.mem_cons.1 h with rfl | h
    · omega
    · have := ih q h; omega
 exact this qs _ (List.getElem_mem hj)
theorem Xhh : ∀ qs : List Pr, qs.length ≤ prWs qs
 | [] => Nat.zero_le _
 | q :: qs => by
   have e : prWs (q :: qs) = prW q + prWs qs := by simp [prWs]
   have := Xhh qs
   rw [List.length_cons, e]
   unfold prW
   omega
set_option maxHeartbeats 4000000 in
set_option maxRecDepth 100000 in
theorem Yai {w0 : World} {B : Nat} {qs : List Pr} {v : Value} (hq : Xca w0 (· < B) qs v) {w : World} {bb b base : Nat} {x : Nm} {l : List Dg} {left : Int} {dv lo : Value} {ps : List Pr} (h : BdAt w bb b base x l left dv lo ps) (hBb : B ≤ base) (hb : Below B w0 w) (hleft : 0 ≤ left)
  (hw : prWs qs ≤ 40000) (hp : ps.length ≤ 100000) :
  Calls Tryz.prog 36 #[.pointer (some ⟨bb, 0, none⟩), v] w
   fun e w' => e = .returned (.tuple #[]) ∧ ∃ lo', Xar w bb b base x dv lo w' dv lo' l left (Xow ps qs) := by
 obtain ⟨A, c, rfl, hc, hM, hA⟩ := hq
 obtain ⟨n, hn⟩ : ∃ n, n = qs.length := ⟨_, rfl⟩
 rw [← hn] at hc ⊢
 have HN := lh hn
 have HB := lh hb
 have HA := lh hA
 have HBD := lh h
 have HW0 := lh hw
 have HP0 := lh hp
 clear hn hb hA h hw hp
 go_enter Tryz.func36, Tryz.ntmps36
 go_wp2
 go_loopw [8] (fun i wr => ∃ (j : Nat) (loj : Value), j ≤ n ∧ i = .int .i64 j ∧ Hid (Xar w bb b base x dv lo wr dv loj l left (Xow ps (qs.take j)))) (fun i _ => n - (intOf i).toNat)
 case atStart => exact ⟨0, lo, Nat.zero_le _, rfl, lh (Xar.refl HBD.out)⟩
 case round =>
  obtain ⟨wo, rfl⟩ : ∃ wo : World, wo = wr := ⟨_, rfl⟩
  obtain ⟨j, loj, hj, rfl, HW⟩ := hrel
  by_cases hlt : j < n
  · have hje : j < qs.length := by rw [← HN.out]; exact hlt
    obtain ⟨pb, off, rfl, hpb, hnl, htl, p0, p1⟩ := HA.out j hje
    have hbe := Xar.below_base HBD.out HW.out
    have hpc : ∀ i, wo.cell? ⟨pb, i, none⟩ = w0.cell? ⟨pb, i, none⟩ := fun i => World.cell?_of_block ((hbe.block pb (by omega)).trans (HB.out.block pb hpb))
    have r0 := (hpc _).trans p0
    have r1 := (hpc _).trans p1
    have hdt := Xyu ps hje
    have hpw := prWs_get hje
    have hal := Xmv (qs.take j) ps
    have hql := Xhh qs
    obtain ⟨nm, hnm⟩ : ∃ q, q = qs[j].name := ⟨_, rfl⟩
    obtain ⟨ty, hty⟩ : ∃ q, q = qs[j].type := ⟨_, rfl⟩
    rw [← hnm, ← hty] at hdt hpw
    rw [← hnm] at r0
    rw [← hty] at r1
    obtain ⟨P0, hP0⟩ : ∃ q, q = Xow ps (qs.take j) := ⟨_, rfl⟩
    rw [← hP0] at HW hdt hal
    obtain ⟨S, hS⟩ : ∃ q, q = Xab nm := ⟨_, rfl⟩
    obtain ⟨T, hT⟩ : ∃ q, q = Xab ty := ⟨_, rfl⟩
    rw [← hS] at r0
    rw [← hT] at r1
    obtain ⟨X, hX⟩ : ∃ X : World, X = wo.alloc (.cells #[.string S, .string T] 49) := ⟨_, rfl⟩
    have hbx : Below wo.heap.size wo X := by rw [hX]; exact (Below.refl _ _).alloc (Nat.le_refl _) _
    have hrow : X.heap[wo.heap.size]? = some (.cells #[.string S, .string T] 49 (0, 0)) := by rw [hX]; exact heap_alloc_new _ _
    have hBX := HW.out.1.below hbx
    have x0 : X.cell? ⟨wo.heap.size, 0, none⟩ = some (.string S) := by rw [cell_of_row X _ 0 _ _ (0, 0) hrow]; rfl
    have x1 : X.cell? ⟨wo.heap.size, 1, none⟩ = some (.string T) := by rw [cell_of_row X _ 1 _ _ (0, 0) hrow]; rfl
    have y0 := hBX.c0
    have y12 := hBX.nm.c12
    have h1 := HW0.out
    have h2 := HP0.out
    have HAD : Hid (Calls Tryz.prog 63 #[.pointer (some ⟨bb, 0, none⟩), .string S, .string T] X fun e w' => e = .returned (.tuple #[]) ∧ ∃ lo2, Xar w bb b base x dv lo w' dv lo2 l left (addL P0 nm ty)) := lh (by
     rw [hS, hT]
     exact (Ybd hBX (by rw [List.length_take] at hal; omega) nm ty (by omega) (by omega)).mono fun e w' ⟨e1, lo2, e2⟩ => ⟨e1, lo2, (HW.out.below hbx).trans e2⟩)
    have HX := lh hX
    have HDT := lh hdt
    clear hje hpc p0 p1 hbe hdt hpw hal hql hnm hty hP0 hS hT hX hbx hrow hBX h1 h2 hnl htl
    go_upto_region 3 with fail
    rw [← HX.out]
    go_wp2_with (first
     | ((with_reducible refine HAD.out.mono ?_); rintro e w2 ⟨rfl, lo2, hw2⟩; have HW2 := lh hw2; clear hw2))
    go_roundw
    case rel => exact ⟨j + 1, lo2, by omega, by go_num, lh (by rw [HDT.out]; exact HW2.out)⟩
    case measure => first | (simp [intOf]; done) | (simp [intOf]; omega)
  · have HT : Hid (qs.take j = qs) := lh (List.take_of_length_le (by rw [← HN.out]; omega))
    go_wp2
    go_end0
    have := HW.out
    rw [HT.out] at this
    exact ⟨rfl, _, this⟩
end Go.Proofs.YtbckeljbpknbdaaGreatDoor
