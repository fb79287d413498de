/- Iq -/
import Derived.Test.YtbckeljbpknbdaaGreatDoorVe3
set_option linter.unusedVariables false
set_option linter.unusedSimpArgs false
namespace Go.Proofs.YtbckeljbpknbdaaGreatDoor
open Go.RowKit
theorem Xtv (ds : List Dc) (p : Int) (fn : Bool) : ∀ (pre a : List Pr) (q : Pr), prDs ds p fn pre (a ++ [q]) = prDs ds p fn pre a ++ ((if hasB (pre ++ a) q.name = true ∨ fn = true ∧ (Xai ds q.name).isSome = true then [⟨p, 40, q.name⟩] else []) ++ Xbl ds p q.type)
 | pre, [], q => by rw [List.nil_append, prDs, prDs, prDs]; simp
 | pre, a :: r, q => by
   rw [List.cons_append, prDs, prDs, Xtv ds p fn (pre ++ [a]) r q]
   simp [List.append_assoc]
theorem Yel (ds : List Dc) (p : Int) (fn : Bool) {qs : List Pr} {j : Nat} (hj : j < qs.length) : prDs ds p fn [] (qs.take (j + 1)) = prDs ds p fn [] (qs.take j) ++ ((if hasB (qs.take j) qs[j].name = true ∨ fn = true ∧ (Xai ds qs[j].name).isSome = true then [⟨p, 40, qs[j].name⟩] else []) ++ Xbl ds p qs[j].type) := by
 rw [List.take_succ_eq_append_getElem hj, Xtv, List.nil_append]
theorem Xmq (ds : List Dc) (p : Int) (fn : Bool) : ∀ (pre qs : List Pr), (prDs ds p fn pre qs).length ≤ 2 * qs.length
 | pre, [] => by simp [prDs]
 | pre, q :: qs => by
   rw [prDs]
   have h1 := Xmq ds p fn (pre ++ [q]) qs
   have h2 := Xfq ds p q.type
   simp only [List.length_append, List.length_cons]
   split
   · simp only [List.length_singleton]; omega
   · simp only [List.length_nil]; omega
theorem Yem {qs : List Pr} {j : Nat} (hj : j < qs.length) : prWs (qs.take (j + 1)) = prWs (qs.take j) + (1 + qs[j].name.length + qs[j].type.length) := by
 have e : (List.map prW [qs[j]]).sum = 1 + qs[j].name.length + qs[j].type.length := by simp [prW]
 rw [List.take_succ_eq_append_getElem hj]
 unfold prWs
 rw [List.map_append, List.sum_append, e]
theorem Xtw (qs : List Pr) (j : Nat) : prWs (qs.take j) ≤ prWs qs := by
 have : prWs (qs.take j) + prWs (qs.drop j) = prWs qs := by
  unfold prWs
  rw [← List.sum_append, ← List.map_append, List.take_append_drop]
 omega
theorem Xca.take {w : World} {S : Nat → Prop} {qs : List Pr} {A : Option Addr} {n c : Nat} (h : Xca w S qs (.slice A n c)) {j : Nat} (hj : j ≤ qs.length) : Xca w S (qs.take j) (.slice A j c) := by
 obtain ⟨A', c', hv, hc, hM, hA⟩ := h
 cases hv
 have hlen : (qs.take j).length = j := by rw [List.length_take]; omega
 refine ⟨A, c, by rw [hlen], by rw [hlen]; omega, hM, fun k hk => ?_⟩
 have hk2 : k < qs.length := by rw [hlen] at hk; omega
 obtain ⟨b, off, h1, h2, h3, h4, h5, h6⟩ := hA k hk2
 exact ⟨b, off, h1, h2, by rw [List.getElem_take]; exact h3, by rw [List.getElem_take]; exact h4, by rw [List.getElem_take]; exact h5, by rw [List.getElem_take]; exact h6⟩
set_option maxHeartbeats 8000000 in
set_option maxRecDepth 100000 in
theorem Yeh {w0 : World} {B : Nat} {qs : List Pr} {PA : Option Addr} {n c : Nat} (hq : Xca w0 (· < B) qs (.slice PA n c)) {w : World} {b base : Nat} {x : Nm} {l : List Dg} {left : Int} {dv : Value} {ds : List Dc} (h : NmAt w b base x l left dv) (he : Env w base x ds) (hBb : B ≤ base) (hb : Below B w0 w)
  (hle : (prWs qs : Int) ≤ left) (hleft2 : left ≤ 40000) (hll : l.length ≤ 800000) (k p u : Int) (dn dt : ByteArray) (A2 : Option Addr) (n2 c2 : Nat) :
  Calls Tryz.prog 35 #[.pointer (some ⟨b, 0, none⟩), .agg #[.int .i64 k, .int .i64 p, .int .i64 u, .string dn, .string dt, .slice PA n c, .slice A2 n2 c2]] w
   fun e w' => e = .returned (.tuple #[]) ∧ ∃ dv', Xbj w b base x dv w' dv' (l ++ prDs ds p (decide (k = 7)) [] qs) (left - prWs qs) := by
 have hn : n = qs.length := by obtain ⟨A', c', hv, -⟩ := hq; cases hv; rfl
 have hc : n ≤ c := by obtain ⟨A', c', hv, hc, -⟩ := hq; cases hv; exact hc
 have hM : c ≤ 9223372036854775807 := by obtain ⟨A', c', hv, hc, hM, -⟩ := hq; cases hv; exact hM
 have hA : ∀ (k : Nat) (hk : k < qs.length), ∃ b off, PA = some ⟨b, off, none⟩ ∧ b < B ∧ w0.cell? ⟨b, off + k * 2, none⟩ = some (.string (Xab qs[k].name)) ∧ w0.cell? ⟨b, off + k * 2 + 1, none⟩ = some (.string (Xab qs[k].type)) := fun k hk => by
  obtain ⟨A', c', hv, _, _, hA⟩ := hq
  cases hv
  obtain ⟨b, off, h1, h2, _, _, h3, h4⟩ := hA k hk
  exact ⟨b, off, h1, h2, h3, h4⟩
 obtain ⟨W0, hW0⟩ : ∃ W0 : World, W0 = w.alloc (.cells #[.int .i64 k, .int .i64 p, .int .i64 u, .string dn, .string dt, .slice PA n c, .slice A2 n2 c2] 46) := ⟨_, rfl⟩
 have hbw : Below w.heap.size w W0 := by rw [hW0]; exact (Below.refl _ _).alloc (Nat.le_refl _) _
 have hrow : W0.heap[w.heap.size]? = some (.cells #[.int .i64 k, .int .i64 p, .int .i64 u, .string dn, .string dt, .slice PA n c, .slice A2 n2 c2] 46 (0, 0)) := by rw [hW0]; exact heap_alloc_new _ _
 have hD : ∀ V : World, Chg (Xga b dv) W0 V → V.cell? ⟨w.heap.size, 0, none⟩ = some (.int .i64 k) ∧ V.cell? ⟨w.heap.size, 1, none⟩ = some (.int .i64 p) ∧ V.cell? ⟨w.heap.size, 5, none⟩ = some (.slice PA n c) := fun V hV => by
  have hn : ¬ Xga b dv w.heap.size := fun hm => by have := (h.mine hm).2; omega
  have hk2 := (hV.block _ (Xac hrow) hn).trans hrow
  exact ⟨by rw [cell_of_row V _ 0 _ _ (0, 0) hk2]; rfl, by rw [cell_of_row V _ 1 _ _ (0, 0) hk2]; rfl, by rw [cell_of_row V _ 5 _ _ (0, 0) hk2]; rfl⟩
 have hbase : base ≤ w.heap.size := by have := h.lt; have := h.bb; omega
 have HN := lh hn
 have HB := lh (hb.trans (hbw.mono (by omega)))
 have HA := lh hA
 have HQ := lh hq
 have HBD := lh (h.below hbw)
 have HEN := lh (he.keep (hbw.mono hbase))
 have HWB := lh ((Xbj.refl h).below hbw)
 have HDC := lh hD
 have HLE := lh hle
 have HLL := lh hll
 have HBS : Hid (base ≤ w.heap.size) := lh hbase
 have HWS : Hid (w.heap.size < W0.heap.size) := lh (Xac hrow)
 have HCA := lh hc
 have HW0 := lh hW0
 obtain ⟨g0, g1, g5⟩ := hD W0 (Chg.refl _ _)
 clear hn hb hA hq h he hD hle hll hbase hrow hbw hW0
 go_enter Tryz.func35, Tryz.ntmps35
 go_upto_region 1 with fail
 rw [← HW0.out]
 go_wp2
 clear g0 g1 g5
 go_loopw [9] (fun i wr => ∃ (j : Nat) (dvj : Value), j ≤ n ∧ i = .int .i64 j ∧ Hid (Xbj W0 b base x dv wr dvj (l ++ prDs ds p (decide (k = 7)) [] (qs.take j)) (left - prWs (qs.take j)))) (fun i _ => n - (intOf i).toNat)
 case atStart => exact ⟨0, dv, Nat.zero_le _, rfl, lh (by rw [List.take_zero, prDs, List.append_nil]; simpa [prWs] using Xbj.refl HBD.out)⟩
 case round =>
  obtain ⟨wo, rfl⟩ : ∃ wo : World, wo = wr := ⟨_, rfl⟩
  obtain ⟨j, dvj, hj, rfl, HW⟩ := hrel
  by_cases hlt : j < n
  · have hje : j < qs.length := by rw [← HN.out]; exact hlt
    have hPrs := HQ.out
    obtain ⟨pb, off, rfl, hpb, p0, p1⟩ := HA.out j hje
    have hbe := Xbj.below_base HBD.out HW.out
    have hpc : ∀ i, wo.cell? ⟨pb, i, none⟩ = w0.cell? ⟨pb, i, none⟩ := fun i => World.cell?_of_block ((hbe.block pb (by omega)).trans (HB.out.block pb hpb))
    have r0 := (hpc _).trans p0
    have r1 := (hpc _).trans p1
    have hdt := Yel ds p (decide (k = 7)) hje
    have hwt := Yem hje
    have hwl := Xtw qs (j + 1)
    have hdl := Xmq ds p (decide (k = 7)) [] (qs.take j)
    have hql := Xhh qs
    obtain ⟨nm, hnm⟩ : ∃ q, q = qs[j].name := ⟨_, rfl⟩
    obtain ⟨ty, hty⟩ : ∃ q, q = qs[j].type := ⟨_, rfl⟩
    rw [← hnm, ← hty] at hdt hwt
    rw [← hnm] at r0
    rw [← hty] at r1
    obtain ⟨L0, hL0⟩ : ∃ q, q = l ++ prDs ds p (decide (k = 7)) [] (qs.take j) := ⟨_, rfl⟩
    obtain ⟨lf, hlf⟩ : ∃ q : Int, q = left - prWs (qs.take j) := ⟨_, rfl⟩
    rw [← hL0, ← hlf] at HW
    obtain ⟨S, hS⟩ : ∃ q, q = Xab nm := ⟨_, rfl⟩
    obtain ⟨T, hT⟩ : ∃ q, q = Xab ty := ⟨_, rfl⟩
    rw [← hS] at r0
    rw [← hT] at r1
    obtain ⟨X, hX⟩ : ∃ X : World, X = wo.alloc (.cells #[.string S, .string T] 49) := ⟨_, rfl⟩
    have hbx : Below wo.heap.size wo X := by rw [hX]; exact (Below.refl _ _).alloc (Nat.le_refl _) _
    have hrow : X.heap[wo.heap.size]? = some (.cells #[.string S, .string T] 49 (0, 0)) := by rw [hX]; exact heap_alloc_new _ _
    have hBX := HW.out.1.below hbx
    have hws : w.heap.size < wo.heap.size := Nat.lt_of_lt_of_le HWS.out HW.out.2.2.size
    have hbs := HBS.out
    have hWX : Xbj W0 b base x dv X dvj L0 lf := HW.out.below hbx
    have hEX := HEN.out.keep (Xbj.below_base HBD.out hWX)
    have HCE : Hid (∀ V : World, Chg (Xga b dvj) X V → V.cell? ⟨wo.heap.size, 0, none⟩ = some (.string S) ∧ V.cell? ⟨wo.heap.size, 1, none⟩ = some (.string T) ∧ V.cell? ⟨w.heap.size, 0, none⟩ = some (.int .i64 k) ∧ V.cell? ⟨w.heap.size, 1, none⟩ = some (.int .i64 p) ∧ V.cell? ⟨w.heap.size, 0, none⟩ = some (.int .i64 k) ∧ V.cell? ⟨w.heap.size, 5, none⟩ = some (.slice (some ⟨pb, off, none⟩) n c)) := lh fun V hV => by
     have hn : ¬ Xga b dvj wo.heap.size := fun hm => by have := (HW.out.1.mine hm).2; omega
     have hk2 := (hV.block _ (Xac hrow) hn).trans hrow
     obtain ⟨d0, d1, d5⟩ := HDC.out V (hWX.2.2.trans hV fun y hy hm => by
      rcases hm with rfl | hm
      · exact .inl rfl
      · rcases hWX.2.1 y hm with h1 | h1
        · exact .inr h1
        · omega)
     exact ⟨by rw [cell_of_row V _ 0 _ _ (0, 0) hk2]; rfl, by rw [cell_of_row V _ 1 _ _ (0, 0) hk2]; rfl, d0, d1, d0, d5⟩
    have HENV : Hid (∀ (V : World) (dv' : Value) (l' : List Dg) (lf' : Int), Xbj X b base x dvj V dv' l' lf' → Env V base x ds ∧ Below B w0 V) := lh fun V dv' l' lf' hV => ⟨hEX.keep (Xbj.below_base hBX hV), HB.out.trans (((Xbj.below_base HBD.out hWX).trans (Xbj.below_base hBX hV)).mono hBb)⟩
    have h1 := HLE.out
    have h2 := HLL.out
    have hLn : L0.length ≤ 900000 := by rw [hL0, List.length_append]; rw [List.length_take] at hdl; omega
    have HMO : Hid (Calls Tryz.prog 22 #[.pointer (some ⟨b, 0, none⟩), .string S, .string T] X fun e w' => e = .returned (.bool true) ∧ Xbj X b base x dvj w' dvj L0 (lf - (1 + nm.length + ty.length : Nat))) := lh (by
     have h1 := Xmn hBX nm ty (by omega) (by omega) (by omega) (by omega)
     rw [decide_eq_true (by omega), ← hS, ← hT] at h1
     exact h1)
    have HHA : Hid (∀ V : World, Xbj X b base x dvj V dvj L0 (lf - (1 + nm.length + ty.length : Nat)) → Calls Tryz.prog 61 #[.slice (some ⟨pb, off, none⟩) j c, .string S] V fun e w' => e = .returned (.bool (hasB (qs.take j) nm)) ∧ Below V.heap.size V w') := lh fun V hV => by
     rw [hS]
     exact Xnn V ((hPrs.take (j := j) (by omega)).keep (fun b hb => (HENV.out V _ _ _ hV).2.block b hb) (fun b hb => by
      have := hV.2.2.size
      have := hbx.size
      show b < V.heap.size
      have hb' : b < B := hb
      omega)) nm
    have HDE : Hid (∀ V : World, Xbj X b base x dvj V dvj L0 (lf - (1 + nm.length + ty.length : Nat)) → Calls Tryz.prog 62 #[.pointer (some ⟨b, 0, none⟩), .string S] V fun e w' => e = .returned (.bool (Xai ds nm).isSome) ∧ w' = V) := lh fun V hV => by
     rw [hS]; exact Xic hV.1 (HENV.out V _ _ _ hV).1 nm (by omega)
    have HTE : Hid (∀ V : World, Xbj X b base x dvj V dvj L0 (lf - (1 + nm.length + ty.length : Nat)) → Calls Tryz.prog 32 #[.pointer (some ⟨b, 0, none⟩), .int .i64 p, .int .i64 40, .string S] V fun e w' => e = .returned (.tuple #[]) ∧ ∃ dv2, Xbj X b base x dvj w' dv2 (L0 ++ [⟨p, 40, nm⟩]) (lf - (1 + nm.length + ty.length : Nat))) := lh fun V hV => by
     rw [hS]
     exact (Xko hV.1 (by omega) p 40 nm (by omega)).mono fun e w' ⟨e1, dv2, e2⟩ => ⟨e1, dv2, hV.trans e2⟩
    have HUT : Hid (∀ (V : World) (dv' : Value) (l' : List Dg), Xbj X b base x dvj V dv' l' (lf - (1 + nm.length + ty.length : Nat)) → l'.length ≤ L0.length + 1 → Calls Tryz.prog 34 #[.pointer (some ⟨b, 0, none⟩), .int .i64 p, .string T] V fun e w' => e = .returned (.tuple #[]) ∧ ∃ dv2, Xbj X b base x dvj w' dv2 (l' ++ Xbl ds p ty) (lf - (1 + nm.length + ty.length : Nat))) := lh fun V dv' l' hV hl' => by
     rw [hT]
     exact (Xjs hV.1 (HENV.out V _ _ _ hV).1 (by omega) p ty (by omega)).mono fun e w' ⟨e1, dv2, e2⟩ => ⟨e1, dv2, hV.trans e2⟩
    have hnx : l ++ prDs ds p (decide (k = 7)) [] (qs.take (j + 1)) = L0 ++ ((if hasB (qs.take j) nm = true ∨ k = 7 ∧ (Xai ds nm).isSome = true then [(⟨p, 40, nm⟩ : Dg)] else []) ++ Xbl ds p ty) := by
     rw [hdt, hL0, List.append_assoc]; simp
    have hnw : left - (prWs (qs.take (j + 1)) : Nat) = lf - (1 + nm.length + ty.length : Nat) := by rw [hwt, hlf]; omega
    have HX := lh hX
    have HNX := lh hnx
    have HNW := lh hnw
    have HWX := lh hWX
    have HR := lh (Xbj.refl hBX)
    have hjc : (j : Int) ≤ (c : Int) := by have := HCA.out; omega
    have hjc2 : j ≤ c := by omega
    obtain ⟨x0, x1, x2, x3, x4, x5⟩ := HCE.out X (Chg.refl _ _)
    clear hje hpc p0 p1 hbe hdt hwt hwl hdl hql hnm hty hL0 hlf hS hT hX hbx hrow hBX hws hbs hWX hEX h1 h2 hLn hnx hnw hPrs
    go_upto_region 4 with fail
    rw [← HX.out]
    go_upto_region 5 with (first
     | ((with_reducible refine HMO.out.mono ?_); rintro e w1 ⟨rfl, hw1⟩; have HW1 := lh hw1; obtain ⟨y0, y1, yk, yp, yk2, y5⟩ := HCE.out w1.drew (hw1.2.2.drew); clear hw1))
    clear x0 x1 x2 x3 x4 x5 HMO
    go_cut [38] from 11 to 51 (fun s38 wx => s38 = .bool (decide (hasB (qs.take j) nm = true ∨ k = 7 ∧ (Xai ds nm).isSome = true)) ∧ Xbj X b base x dvj wx dvj L0 (lf - (1 + nm.length + ty.length : Nat)))
    case first =>
     have HH1 := lh (HHA.out w1.drew ((HW1.out.below (Xau w1))))
     cases hq : hasB (qs.take j) nm with
     | true =>
       rw [hq] at HH1
       have HD : Hid (decide (hasB (qs.take j) nm = true ∨ k = 7 ∧ (Xai ds nm).isSome = true) = true) := lh (decide_eq_true (.inl hq))
       refine wp_region_held_drew (S := fun w' => w'.cell? ⟨wo.heap.size, 0, none⟩ = some (.string S) ∧ w'.cell? ⟨w.heap.size, 5, none⟩ = some (.slice (some ⟨pb, off, none⟩) n c) ∧ w'.cell? ⟨w.heap.size, 0, none⟩ = some (.int .i64 k)) (by kernel_rfl) ⟨y0, y5, yk⟩ (fun hHeld => ?_)
       refine Xat (i := 0) (oi := _) (v := .pointer (some ⟨w.heap.size, 5, none⟩)) rfl rfl (by kernel_rfl) (by kernel_rfl) (by kernel_rfl) (fun _ _ _ h => h) (Or.inl ⟨by rfl, fun W hS => ?_⟩) hHeld ?_
       · obtain ⟨s0, s1, s2⟩ := hS
         go_simp
       simp only [List.setIfInBounds_toArray, List.set_cons_zero, List.set_cons_succ]
       refine Xat (i := 1) (oi := _) (v := .slice (some ⟨pb, off, none⟩) n c) rfl rfl (by kernel_rfl) (by kernel_rfl) (by kernel_rfl) (fun _ _ _ h => h) (Or.inl ⟨by rfl, fun W hS => ?_⟩) hHeld ?_
       · obtain ⟨s0, s1, s2⟩ := hS
         go_simp
       simp only [List.setIfInBounds_toArray, List.set_cons_zero, List.set_cons_succ]
       refine Xat (i := 2) (oi := _) (v := .int .i64 j) rfl rfl (by kernel_rfl) (by kernel_rfl) (by kernel_rfl) (fun _ _ _ h => h) (Or.inl ⟨by rfl, fun W hS => ?_⟩) hHeld ?_
       · obtain ⟨s0, s1, s2⟩ := hS
         go_simp
       simp only [List.setIfInBounds_toArray, List.set_cons_zero, List.set_cons_succ]
       refine Xat (i := 3) (oi := _) (v := .slice (some ⟨pb, off, none⟩) j c) rfl rfl (by kernel_rfl) (by kernel_rfl) (by kernel_rfl) (fun _ _ _ h => h) (Or.inl ⟨by rfl, fun W hS => ?_⟩) hHeld ?_
       · obtain ⟨s0, s1, s2⟩ := hS
         go_simp
       simp only [List.setIfInBounds_toArray, List.set_cons_zero, List.set_cons_succ]
       refine Xat (i := 4) (oi := _) (v := .pointer (some ⟨wo.heap.size, 0, none⟩)) rfl rfl (by kernel_rfl) (by kernel_rfl) (by kernel_rfl) (fun _ _ _ h => h) (Or.inl ⟨by rfl, fun W hS => ?_⟩) hHeld ?_
       · obtain ⟨s0, s1, s2⟩ := hS
         go_simp
       simp only [List.setIfInBounds_toArray, List.set_cons_zero, List.set_cons_succ]
       refine Xat (i := 5) (oi := _) (v := .string S) rfl rfl (by kernel_rfl) (by kernel_rfl) (by kernel_rfl) (fun _ _ _ h => h) (Or.inl ⟨by rfl, fun W hS => ?_⟩) hHeld ?_
       · obtain ⟨s0, s1, s2⟩ := hS
         go_simp
       simp only [List.setIfInBounds_toArray, List.set_cons_zero, List.set_cons_succ]
       refine wpAnyH_ready (rs := [6]) (by kernel_rfl) (by simp) ?_
       refine AllReadyH.cons rfl (fun K hK => ?_) AllReadyH.nil
       go_simp
       refine HH1.out.mono ?_
       rintro e w2 ⟨rfl, hb2⟩
       have HW2 := lh ((HW1.out.below (Xau w1)).below hb2)
       obtain ⟨z0, z1, z2, z3, z4, z5⟩ := HCE.out w2 HW2.out.2.2
       clear hb2 hHeld
       go_wp2_with fail
       refine hK.out _ _ ⟨z0, z5, z2⟩ (fun hHeld => ?_)
       clear hK K
       refine Xat (i := 7) (oi := _) (v := .bool true) rfl rfl (by kernel_rfl) (by kernel_rfl) (by kernel_rfl) (fun _ _ _ h => h) (Or.inl ⟨by rfl, fun W hS => ?_⟩) hHeld ?_
       · obtain ⟨s0, s1, s2⟩ := hS
         go_simp
       simp only [List.setIfInBounds_toArray, List.set_cons_zero, List.set_cons_succ]
       refine Xat (i := 8) (oi := _) (v := undef) rfl rfl (by kernel_rfl) (by kernel_rfl) (by kernel_rfl) (fun _ _ _ h => h) (Or.inr ⟨by kernel_rfl, rfl⟩) hHeld ?_
       simp only [List.setIfInBounds_toArray, List.set_cons_zero, List.set_cons_succ]
       refine Xat (i := 9) (oi := _) (v := undef) rfl rfl (by kernel_rfl) (by kernel_rfl) (by kernel_rfl) (fun _ _ _ h => h) (Or.inr ⟨by kernel_rfl, rfl⟩) hHeld ?_
       simp only [List.setIfInBounds_toArray, List.set_cons_zero, List.set_cons_succ]
       refine Xat (i := 10) (oi := _) (v := undef) rfl rfl (by kernel_rfl) (by kernel_rfl) (by kernel_rfl) (fun _ _ _ h => h) (Or.inr ⟨by kernel_rfl, rfl⟩) hHeld ?_
       simp only [List.setIfInBounds_toArray, List.set_cons_zero, List.set_cons_succ]
       refine Xat (i := 11) (oi := _) (v := undef) rfl rfl (by kernel_rfl) (by kernel_rfl) (by kernel_rfl) (fun _ _ _ h => h) (Or.inr ⟨by kernel_rfl, rfl⟩) hHeld ?_
       simp only [List.setIfInBounds_toArray, List.set_cons_zero, List.set_cons_succ]
       refine Xat (i := 12) (oi := _) (v := undef) rfl rfl (by kernel_rfl) (by kernel_rfl) (by kernel_rfl) (fun _ _ _ h => h) (Or.inr ⟨by kernel_rfl, rfl⟩) hHeld ?_
       simp only [List.setIfInBounds_toArray, List.set_cons_zero, List.set_cons_succ]
       refine Xat (i := 13) (oi := _) (v := undef) rfl rfl (by kernel_rfl) (by kernel_rfl) (by kernel_rfl) (fun _ _ _ h => h) (Or.inr ⟨by kernel_rfl, rfl⟩) hHeld ?_
       simp only [List.setIfInBounds_toArray, List.set_cons_zero, List.set_cons_succ]
       refine Xat (i := 14) (oi := _) (v := undef) rfl rfl (by kernel_rfl) (by kernel_rfl) (by kernel_rfl) (fun _ _ _ h => h) (Or.inr ⟨by kernel_rfl, rfl⟩) hHeld ?_
       simp only [List.setIfInBounds_toArray, List.set_cons_zero, List.set_cons_succ]
       refine Xat (i := 15) (oi := _) (v := undef) rfl rfl (by kernel_rfl) (by kernel_rfl) (by kernel_rfl) (fun _ _ _ h => h) (Or.inr ⟨by kernel_rfl, rfl⟩) hHeld ?_
       simp only [List.setIfInBounds_toArray, List.set_cons_zero, List.set_cons_succ]
       refine Xat (i := 16) (oi := _) (v := undef) rfl rfl (by kernel_rfl) (by kernel_rfl) (by kernel_rfl) (fun _ _ _ h => h) (Or.inr ⟨by kernel_rfl, rfl⟩) hHeld ?_
       simp only [List.setIfInBounds_toArray, List.set_cons_zero, List.set_cons_succ]
       refine Xat (i := 17) (oi := _) (v := .bool true) rfl rfl (by kernel_rfl) (by kernel_rfl) (by kernel_rfl) (fun _ _ _ h => h) (Or.inl ⟨by rfl, fun W hS => ?_⟩) hHeld ?_
       · obtain ⟨s0, s1, s2⟩ := hS
         go_simp
       simp only [List.setIfInBounds_toArray, List.set_cons_zero, List.set_cons_succ]
       refine wpAnyH_done (by kernel_rfl) ?_ _
       go_wp2
       go_meet
       case rel => exact ⟨congrArg Value.bool HD.out.symm, HW2.out⟩
     | false =>
       rw [hq] at HH1
       by_cases hk7 : k = 7
       · subst hk7
         have HD : Hid (decide (hasB (qs.take j) nm = true ∨ (7 : Int) = 7 ∧ (Xai ds nm).isSome = true) = (Xai ds nm).isSome) := lh (by rw [hq]; simp)
         refine wp_region_held_drew (S := fun w' => w'.cell? ⟨wo.heap.size, 0, none⟩ = some (.string S) ∧ w'.cell? ⟨w.heap.size, 5, none⟩ = some (.slice (some ⟨pb, off, none⟩) n c) ∧ w'.cell? ⟨w.heap.size, 0, none⟩ = some (.int .i64 7)) (by kernel_rfl) ⟨y0, y5, yk⟩ (fun hHeld => ?_)
         refine Xat (i := 0) (oi := _) (v := .pointer (some ⟨w.heap.size, 5, none⟩)) rfl rfl (by kernel_rfl) (by kernel_rfl) (by kernel_rfl) (fun _ _ _ h => h) (Or.inl ⟨by rfl, fun W hS => ?_⟩) hHeld ?_
         · obtain ⟨s0, s1, s2⟩ := hS
           go_simp
         simp only [List.setIfInBounds_toArray, List.set_cons_zero, List.set_cons_succ]
         refine Xat (i := 1) (oi := _) (v := .slice (some ⟨pb, off, none⟩) n c) rfl rfl (by kernel_rfl) (by kernel_rfl) (by kernel_rfl) (fun _ _ _ h => h) (Or.inl ⟨by rfl, fun W hS => ?_⟩) hHeld ?_
         · obtain ⟨s0, s1, s2⟩ := hS
           go_simp
         simp only [List.setIfInBounds_toArray, List.set_cons_zero, List.set_cons_succ]
         refine Xat (i := 2) (oi := _) (v := .int .i64 j) rfl rfl (by kernel_rfl) (by kernel_rfl) (by kernel_rfl) (fun _ _ _ h => h) (Or.inl ⟨by rfl, fun W hS => ?_⟩) hHeld ?_
         · obtain ⟨s0, s1, s2⟩ := hS
           go_simp
         simp only [List.setIfInBounds_toArray, List.set_cons_zero, List.set_cons_succ]
         refine Xat (i := 3) (oi := _) (v := .slice (some ⟨pb, off, none⟩) j c) rfl rfl (by kernel_rfl) (by kernel_rfl) (by kernel_rfl) (fun _ _ _ h => h) (Or.inl ⟨by rfl, fun W hS => ?_⟩) hHeld ?_
         · obtain ⟨s0, s1, s2⟩ := hS
           go_simp
         simp only [List.setIfInBounds_toArray, List.set_cons_zero, List.set_cons_succ]
         refine Xat (i := 4) (oi := _) (v := .pointer (some ⟨wo.heap.size, 0, none⟩)) rfl rfl (by kernel_rfl) (by kernel_rfl) (by kernel_rfl) (fun _ _ _ h => h) (Or.inl ⟨by rfl, fun W hS => ?_⟩) hHeld ?_
         · obtain ⟨s0, s1, s2⟩ := hS
           go_simp
         simp only [List.setIfInBounds_toArray, List.set_cons_zero, List.set_cons_succ]
         refine Xat (i := 5) (oi := _) (v := .string S) rfl rfl (by kernel_rfl) (by kernel_rfl) (by kernel_rfl) (fun _ _ _ h => h) (Or.inl ⟨by rfl, fun W hS => ?_⟩) hHeld ?_
         · obtain ⟨s0, s1, s2⟩ := hS
           go_simp
         simp only [List.setIfInBounds_toArray, List.set_cons_zero, List.set_cons_succ]
         refine wpAnyH_ready (rs := [6]) (by kernel_rfl) (by simp) ?_
         refine AllReadyH.cons rfl (fun K hK => ?_) AllReadyH.nil
         go_simp
         refine HH1.out.mono ?_
         rintro e w2 ⟨rfl, hb2⟩
         have HW2 := lh ((HW1.out.below (Xau w1)).below hb2)
         obtain ⟨z0, z1, z2, z3, z4, z5⟩ := HCE.out w2 HW2.out.2.2
         clear hb2 hHeld
         go_wp2_with fail
         refine hK.out _ _ ⟨z0, z5, z2⟩ (fun hHeld => ?_)
         clear hK K
         refine Xat (i := 7) (oi := _) (v := .bool false) rfl rfl (by kernel_rfl) (by kernel_rfl) (by kernel_rfl) (fun _ _ _ h => h) (Or.inl ⟨by rfl, fun W hS => ?_⟩) hHeld ?_
         · obtain ⟨s0, s1, s2⟩ := hS
           go_simp
         simp only [List.setIfInBounds_toArray, List.set_cons_zero, List.set_cons_succ]
         refine Xat (i := 8) (oi := _) (v := .pointer (some ⟨w.heap.size, 0, none⟩)) rfl rfl (by kernel_rfl) (by kernel_rfl) (by kernel_rfl) (fun _ _ _ h => h) (Or.inl ⟨by rfl, fun W hS => ?_⟩) hHeld ?_
         · obtain ⟨s0, s1, s2⟩ := hS
           go_simp
         simp only [List.setIfInBounds_toArray, List.set_cons_zero, List.set_cons_succ]
         refine Xat (i := 9) (oi := _) (v := .int .i64 7) rfl rfl (by kernel_rfl) (by kernel_rfl) (by kernel_rfl) (fun _ _ _ h => h) (Or.inl ⟨by rfl, fun W hS => ?_⟩) hHeld ?_
         · obtain ⟨s0, s1, s2⟩ := hS
           go_simp
         simp only [List.setIfInBounds_toArray, List.set_cons_zero, List.set_cons_succ]
         refine Xat (i := 10) (oi := _) (v := .bool true) rfl rfl (by kernel_rfl) (by kernel_rfl) (by kernel_rfl) (fun _ _ _ h => h) (Or.inl ⟨by rfl, fun W hS => ?_⟩) hHeld ?_
         · obtain ⟨s0, s1, s2⟩ := hS
           go_simp
         simp only [List.setIfInBounds_toArray, List.set_cons_zero, List.set_cons_succ]
         refine Xat (i := 11) (oi := _) (v := .bool true) rfl rfl (by kernel_rfl) (by kernel_rfl) (by kernel_rfl) (fun _ _ _ h => h) (Or.inl ⟨by rfl, fun W hS => ?_⟩) hHeld ?_
         · obtain ⟨s0, s1, s2⟩ := hS
           go_simp
         simp only [List.setIfInBounds_toArray, List.set_cons_zero, List.set_cons_succ]
         refine Xat (i := 12) (oi := _) (v := .pointer (some ⟨b, 0, none⟩)) rfl rfl (by kernel_rfl) (by kernel_rfl) (by kernel_rfl) (fun _ _ _ h => h) (Or.inl ⟨by rfl, fun W hS => ?_⟩) hHeld ?_
         · obtain ⟨s0, s1, s2⟩ := hS
           go_simp
         simp only [List.setIfInBounds_toArray, List.set_cons_zero, List.set_cons_succ]
         refine Xat (i := 13) (oi := _) (v := .pointer (some ⟨wo.heap.size, 0, none⟩)) rfl rfl (by kernel_rfl) (by kernel_rfl) (by kernel_rfl) (fun _ _ _ h => h) (Or.inl ⟨by rfl, fun W hS => ?_⟩) hHeld ?_
         · obtain ⟨s0, s1, s2⟩ := hS
           go_simp
         simp only [List.setIfInBounds_toArray, List.set_cons_zero, List.set_cons_succ]
         refine Xat (i := 14) (oi := _) (v := .string S) rfl rfl (by kernel_rfl) (by kernel_rfl) (by kernel_rfl) (fun _ _ _ h => h) (Or.inl ⟨by rfl, fun W hS => ?_⟩) hHeld ?_
         · obtain ⟨s0, s1, s2⟩ := hS
           go_simp
         simp only [List.setIfInBounds_toArray, List.set_cons_zero, List.set_cons_succ]
         refine wpAnyH_ready (rs := [15]) (by kernel_rfl) (by simp) ?_
         refine AllReadyH.cons rfl (fun K hK => ?_) AllReadyH.nil
         go_simp
         refine (HDE.out w2 HW2.out).mono ?_
         rintro e w3 ⟨rfl, rfl⟩
         go_wp2_with fail
         refine hK.out _ _ hHeld (fun hHeld => ?_)
         clear hK K
         refine Xat (i := 16) (oi := _) (v := .bool (Xai ds nm).isSome) rfl rfl (by kernel_rfl) (by kernel_rfl) (by kernel_rfl) (fun _ _ _ h => h) (Or.inl ⟨by rfl, fun W hS => ?_⟩) hHeld ?_
         · obtain ⟨s0, s1, s2⟩ := hS
           go_simp
         simp only [List.setIfInBounds_toArray, List.set_cons_zero, List.set_cons_succ]
         refine Xat (i := 17) (oi := _) (v := .bool (Xai ds nm).isSome) rfl rfl (by kernel_rfl) (by kernel_rfl) (by kernel_rfl) (fun _ _ _ h => h) (Or.inl ⟨by rfl, fun W hS => ?_⟩) hHeld ?_
         · obtain ⟨s0, s1, s2⟩ := hS
           go_simp
         simp only [List.setIfInBounds_toArray, List.set_cons_zero, List.set_cons_succ]
         refine wpAnyH_done (by kernel_rfl) ?_ _
         go_wp2
         go_meet
         case rel => exact ⟨congrArg Value.bool HD.out.symm, HW2.out⟩
       · have q7 : (k == 7) = false := by simp; exact hk7
         have HD : Hid (decide (hasB (qs.take j) nm = true ∨ k = 7 ∧ (Xai ds nm).isSome = true) = false) := lh (by rw [hq]; simp [hk7])
         clear hk7
         refine wp_region_held_drew (S := fun w' => w'.cell? ⟨wo.heap.size, 0, none⟩ = some (.string S) ∧ w'.cell? ⟨w.heap.size, 5, none⟩ = some (.slice (some ⟨pb, off, none⟩) n c) ∧ w'.cell? ⟨w.heap.size, 0, none⟩ = some (.int .i64 k)) (by kernel_rfl) ⟨y0, y5, yk⟩ (fun hHeld => ?_)
         refine Xat (i := 0) (oi := _) (v := .pointer (some ⟨w.heap.size, 5, none⟩)) rfl rfl (by kernel_rfl) (by kernel_rfl) (by kernel_rfl) (fun _ _ _ h => h) (Or.inl ⟨by rfl, fun W hS => ?_⟩) hHeld ?_
         · obtain ⟨s0, s1, s2⟩ := hS
           go_simp
         simp only [List.setIfInBounds_toArray, List.set_cons_zero, List.set_cons_succ]
         refine Xat (i := 1) (oi := _) (v := .slice (some ⟨pb, off, none⟩) n c) rfl rfl (by kernel_rfl) (by kernel_rfl) (by kernel_rfl) (fun _ _ _ h => h) (Or.inl ⟨by rfl, fun W hS => ?_⟩) hHeld ?_
         · obtain ⟨s0, s1, s2⟩ := hS
           go_simp
         simp only [List.setIfInBounds_toArray, List.set_cons_zero, List.set_cons_succ]
         refine Xat (i := 2) (oi := _) (v := .int .i64 j) rfl rfl (by kernel_rfl) (by kernel_rfl) (by kernel_rfl) (fun _ _ _ h => h) (Or.inl ⟨by rfl, fun W hS => ?_⟩) hHeld ?_
         · obtain ⟨s0, s1, s2⟩ := hS
           go_simp
         simp only [List.setIfInBounds_toArray, List.set_cons_zero, List.set_cons_succ]
         refine Xat (i := 3) (oi := _) (v := .slice (some ⟨pb, off, none⟩) j c) rfl rfl (by kernel_rfl) (by kernel_rfl) (by kernel_rfl) (fun _ _ _ h => h) (Or.inl ⟨by rfl, fun W hS => ?_⟩) hHeld ?_
         · obtain ⟨s0, s1, s2⟩ := hS
           go_simp
         simp only [List.setIfInBounds_toArray, List.set_cons_zero, List.set_cons_succ]
         refine Xat (i := 4) (oi := _) (v := .pointer (some ⟨wo.heap.size, 0, none⟩)) rfl rfl (by kernel_rfl) (by kernel_rfl) (by kernel_rfl) (fun _ _ _ h => h) (Or.inl ⟨by rfl, fun W hS => ?_⟩) hHeld ?_
         · obtain ⟨s0, s1, s2⟩ := hS
           go_simp
         simp only [List.setIfInBounds_toArray, List.set_cons_zero, List.set_cons_succ]
         refine Xat (i := 5) (oi := _) (v := .string S) rfl rfl (by kernel_rfl) (by kernel_rfl) (by kernel_rfl) (fun _ _ _ h => h) (Or.inl ⟨by rfl, fun W hS => ?_⟩) hHeld ?_
         · obtain ⟨s0, s1, s2⟩ := hS
           go_simp
         simp only [List.setIfInBounds_toArray, List.set_cons_zero, List.set_cons_succ]
         refine wpAnyH_ready (rs := [6]) (by kernel_rfl) (by simp) ?_
         refine AllReadyH.cons rfl (fun K hK => ?_) AllReadyH.nil
         go_simp
         refine HH1.out.mono ?_
         rintro e w2 ⟨rfl, hb2⟩
         have HW2 := lh ((HW1.out.below (Xau w1)).below hb2)
         obtain ⟨z0, z1, z2, z3, z4, z5⟩ := HCE.out w2 HW2.out.2.2
         clear hb2 hHeld
         go_wp2_with fail
         refine hK.out _ _ ⟨z0, z5, z2⟩ (fun hHeld => ?_)
         clear hK K
         refine Xat (i := 7) (oi := _) (v := .bool false) rfl rfl (by kernel_rfl) (by kernel_rfl) (by kernel_rfl) (fun _ _ _ h => h) (Or.inl ⟨by rfl, fun W hS => ?_⟩) hHeld ?_
         · obtain ⟨s0, s1, s2⟩ := hS
           go_simp
         simp only [List.setIfInBounds_toArray, List.set_cons_zero, List.set_cons_succ]
         refine Xat (i := 8) (oi := _) (v := .pointer (some ⟨w.heap.size, 0, none⟩)) rfl rfl (by kernel_rfl) (by kernel_rfl) (by kernel_rfl) (fun _ _ _ h => h) (Or.inl ⟨by rfl, fun W hS => ?_⟩) hHeld ?_
         · obtain ⟨s0, s1, s2⟩ := hS
           go_simp
         simp only [List.setIfInBounds_toArray, List.set_cons_zero, List.set_cons_succ]
         refine Xat (i := 9) (oi := _) (v := .int .i64 k) rfl rfl (by kernel_rfl) (by kernel_rfl) (by kernel_rfl) (fun _ _ _ h => h) (Or.inl ⟨by rfl, fun W hS => ?_⟩) hHeld ?_
         · obtain ⟨s0, s1, s2⟩ := hS
           go_simp
         simp only [List.setIfInBounds_toArray, List.set_cons_zero, List.set_cons_succ]
         refine Xat (i := 10) (oi := _) (v := .bool false) rfl rfl (by kernel_rfl) (by kernel_rfl) (by kernel_rfl) (fun _ _ _ h => h) (Or.inl ⟨by rfl, fun W hS => ?_⟩) hHeld ?_
         · obtain ⟨s0, s1, s2⟩ := hS
           go_simp
         simp only [List.setIfInBounds_toArray, List.set_cons_zero, List.set_cons_succ]
         refine Xat (i := 11) (oi := _) (v := .bool false) rfl rfl (by kernel_rfl) (by kernel_rfl) (by kernel_rfl) (fun _ _ _ h => h) (Or.inl ⟨by rfl, fun W hS => ?_⟩) hHeld ?_
         · obtain ⟨s0, s1, s2⟩ := hS
           go_simp
         simp only [List.setIfInBounds_toArray, List.set_cons_zero, List.set_cons_succ]
         refine Xat (i := 12) (oi := _) (v := undef) rfl rfl (by kernel_rfl) (by kernel_rfl) (by kernel_rfl) (fun _ _ _ h => h) (Or.inr ⟨by kernel_rfl, rfl⟩) hHeld ?_
         simp only [List.setIfInBounds_toArray, List.set_cons_zero, List.set_cons_succ]
         refine Xat (i := 13) (oi := _) (v := undef) rfl rfl (by kernel_rfl) (by kernel_rfl) (by kernel_rfl) (fun _ _ _ h => h) (Or.inr ⟨by kernel_rfl, rfl⟩) hHeld ?_
         simp only [List.setIfInBounds_toArray, List.set_cons_zero, List.set_cons_succ]
         refine Xat (i := 14) (oi := _) (v := undef) rfl rfl (by kernel_rfl) (by kernel_rfl) (by kernel_rfl) (fun _ _ _ h => h) (Or.inr ⟨by kernel_rfl, rfl⟩) hHeld ?_
         simp only [List.setIfInBounds_toArray, List.set_cons_zero, List.set_cons_succ]
         refine Xat (i := 15) (oi := _) (v := undef) rfl rfl (by kernel_rfl) (by kernel_rfl) (by kernel_rfl) (fun _ _ _ h => h) (Or.inr ⟨by kernel_rfl, rfl⟩) hHeld ?_
         simp only [List.setIfInBounds_toArray, List.set_cons_zero, List.set_cons_succ]
         refine Xat (i := 16) (oi := _) (v := .bool false) rfl rfl (by kernel_rfl) (by kernel_rfl) (by kernel_rfl) (fun _ _ _ h => h) (Or.inl ⟨by rfl, fun W hS => ?_⟩) hHeld ?_
         · obtain ⟨s0, s1, s2⟩ := hS
           go_simp
         simp only [List.setIfInBounds_toArray, List.set_cons_zero, List.set_cons_succ]
         refine Xat (i := 17) (oi := _) (v := .bool false) rfl rfl (by kernel_rfl) (by kernel_rfl) (by kernel_rfl) (fun _ _ _ h => h) (Or.inl ⟨by rfl, fun W hS => ?_⟩) hHeld ?_
         · obtain ⟨s0, s1, s2⟩ := hS
           go_simp
         simp only [List.setIfInBounds_toArray, List.set_cons_zero, List.set_cons_succ]
         refine wpAnyH_done (by kernel_rfl) ?_ _
         go_wp2
         go_meet
         case rel => exact ⟨congrArg Value.bool HD.out.symm, HW2.out⟩
    case rest =>
     obtain ⟨rfl, hwc⟩ := hcut
     have HWC := lh hwc
     clear hwc y0 y1 yk yp yk2 y5 HW1
     obtain ⟨q, hq⟩ : ∃ q, q = decide (hasB (qs.take j) nm = true ∨ k = 7 ∧ (Xai ds nm).isSome = true) := ⟨_, rfl⟩
     rw [← hq]
     obtain ⟨u0, u1, u2, u3, u4, u5⟩ := HCE.out wc HWC.out.2.2
     cases q with
     | true =>
       have HF : Hid ((if hasB (qs.take j) nm = true ∨ k = 7 ∧ (Xai ds nm).isSome = true then [(⟨p, 40, nm⟩ : Dg)] else []) = [⟨p, 40, nm⟩]) := lh (if_pos (of_decide_eq_true hq.symm))
       have HT1 := lh (HTE.out wc HWC.out)
       clear hq
       go_wp2_with (first
        | ((with_reducible refine HT1.out.mono ?_); rintro e w5 ⟨rfl, dv5, hw5⟩; have HU5 := lh (HUT.out w5 _ _ hw5 (by simp)); obtain ⟨v0, v1, v2, v3, v4, v5⟩ := HCE.out w5 hw5.2.2; clear hw5)
        | ((with_reducible refine HU5.out.mono ?_); rintro e w6 ⟨rfl, dv6, hw6⟩; have HW6 := lh (HWX.out.trans hw6); clear hw6))
       go_roundw
       case rel => exact ⟨j + 1, dv6, by omega, by go_num, lh (by rw [HNX.out, HNW.out, HF.out, ← List.append_assoc]; exact HW6.out)⟩
       case measure => first | (simp [intOf]; done) | (simp [intOf]; omega)
     | false =>
       have HF : Hid ((if hasB (qs.take j) nm = true ∨ k = 7 ∧ (Xai ds nm).isSome = true then [(⟨p, 40, nm⟩ : Dg)] else []) = []) := lh (if_neg (of_decide_eq_false hq.symm))
       have HU5 := lh (HUT.out wc _ _ HWC.out (by omega))
       clear hq
       go_wp2_with (first
        | ((with_reducible refine HU5.out.mono ?_); rintro e w6 ⟨rfl, dv6, hw6⟩; have HW6 := lh (HWX.out.trans hw6); clear hw6))
       go_roundw
       case rel => exact ⟨j + 1, dv6, by omega, by go_num, lh (by rw [HNX.out, HNW.out, HF.out, List.nil_append]; exact HW6.out)⟩
       case measure => first | (simp [intOf]; done) | (simp [intOf]; omega)
  · have HT : Hid (qs.take j = qs) := lh (List.take_of_length_le (by rw [← HN.out]; omega))
    go_wp2
    go_end0
    have h9 := HW.out
    rw [HT.out] at h9
    exact ⟨rfl, _, HWB.out.trans h9⟩
end Go.Proofs.YtbckeljbpknbdaaGreatDoor
