/- Il -/
import Derived.Test.YtbckeljbpknbdaaGreatDoorVe1
import Derived.Deep.Cut
set_option linter.unusedVariables false
set_option linter.unusedSimpArgs false
namespace Go.Proofs.YtbckeljbpknbdaaGreatDoor
open Go.RowKit
theorem Yco (e : Ex) : exW e = 1 + e.name.length + exWs e.args := by cases e with | mk k p n s es => rw [exW]; rfl
theorem Xht (ds : List Dc) (p : Int) (s : List UInt8) (ks : List Int) : (useD ds p s ks).length ≤ 1 := by
 unfold useD
 cases Xai ds s with
 | none => simp
 | some i =>
   show List.length (if _ then _ else _) ≤ 1
   split <;> simp
theorem Xxg (ds : List Dc) (l : List Pr) (k p : Int) (s : List UInt8) : (exD1 ds l k p s).length ≤ 1 := by
 unfold exD1
 split
 · exact Xht _ _ _ _
 · split
   · exact Xht _ _ _ _
   · simp
mutual
theorem exD_len (ds : List Dc) (l : List Pr) : ∀ e : Ex, (exD ds l e).length ≤ exW e
 | .mk k p n s es => by
   rw [exD, exW, List.length_append]
   have := Xxg ds l k p s
   have := Xjy ds l es
   omega
theorem Xjy (ds : List Dc) (l : List Pr) : ∀ es : List Ex, (exDs ds l es).length ≤ exWs es
 | [] => by rw [exDs]; simp
 | e :: es => by
   rw [exDs, exWs, List.length_append]
   have := exD_len ds l e
   have := Xjy ds l es
   omega
end
theorem Xsl (ds : List Dc) (l : List Pr) : ∀ a b : List Ex, exDs ds l (a ++ b) = exDs ds l a ++ exDs ds l b
 | [], b => by rw [exDs]; rfl
 | e :: a, b => by rw [List.cons_append, exDs, exDs, Xsl ds l a b, List.append_assoc]
theorem Xqy : ∀ a b : List Ex, exWs (a ++ b) = exWs a + exWs b
 | [], b => by rw [exWs]; simp
 | e :: a, b => by rw [List.cons_append, exWs, exWs, Xqy a b]; omega
theorem Ycn (ds : List Dc) (l : List Pr) {es : List Ex} {j : Nat} (hj : j < es.length) : exDs ds l (es.take (j + 1)) = exDs ds l (es.take j) ++ exD ds l es[j] := by
 rw [List.take_succ_eq_append_getElem hj, Xsl, exDs, exDs]; simp
theorem Ycp {es : List Ex} {j : Nat} (hj : j < es.length) : exWs (es.take (j + 1)) = exWs (es.take j) + exW es[j] := by
 rw [List.take_succ_eq_append_getElem hj, Xqy, exWs, exWs, Nat.add_zero]
theorem Xsm (es : List Ex) (j : Nat) : exWs (es.take j) ≤ exWs es := by
 have := Xqy (es.take j) (es.drop j)
 rw [List.take_append_drop] at this
 omega
theorem Ycl (ds : List Dc) (l : List Pr) (e : Ex) : exD ds l e = exD1 ds l e.kind e.pl e.name ++ exDs ds l e.args := by cases e with | mk k p n s es => rw [exD]; rfl
theorem Xar.of_drewN {w w' : World} {n bb b base : Nat} {x : Nm} {l' : List Dg} {left' : Int} {dv dv' lo lo' : Value} {ps' : List Pr} (h : Xar (w.drewN n) bb b base x dv lo w' dv' lo' l' left' ps') : Xar w bb b base x dv lo w' dv' lo' l' left' ps' :=
 ⟨h.1, h.2.1, h.2.2.1, ⟨h.2.2.2.os, h.2.2.2.tape, h.2.2.2.output, h.2.2.2.size, h.2.2.2.block⟩⟩
theorem Xmx (w : World) (n : Nat) : Below w.heap.size w (w.drewN n) := ⟨rfl, rfl, rfl, Nat.le_refl _, fun _ _ => rfl⟩
theorem Xau (w : World) : Below w.heap.size w w.drew := (Below.refl _ _).drew
def Exps (w0 : World) (B : Nat) (es : List Ex) (v : Value) : Prop :=
 ∀ (w : World) (bb b base : Nat) (x : Nm) (l : List Dg) (left : Int) (dv lo : Value) (ps : List Pr) (ds : List Dc), BdAt w bb b base x l left dv lo ps → Env w base x ds → B ≤ base → Below B w0 w → (exWs es : Int) ≤ left → left ≤ 40000 → l.length + exWs es ≤ 900000 →
  Calls Tryz.prog 90 #[.pointer (some ⟨bb, 0, none⟩), v] w
   fun e w' => e = .returned (.tuple #[]) ∧ ∃ dv', Xar w bb b base x dv lo w' dv' lo (l ++ exDs ds ps es) (left - exWs es) ps
set_option maxHeartbeats 4000000 in
set_option maxRecDepth 100000 in
theorem Yct {w0 : World} {B : Nat} {es : List Ex} {v : Value} (h : Xbb w0 (· < B) es v) : Exps w0 B es v := by
 induction h with
 | mk es A c f hc hM hA hr ih =>
   intro w bb b base x l left dv lo ps ds hbd henv hBb hb hleft hleft2 hll
   obtain ⟨n, hn⟩ : ∃ n, n = es.length := ⟨_, rfl⟩
   rw [← hn] at hc ⊢
   have hn2 : n ≤ c := hc
   have HN := lh hn
   have HB := lh hb
   have HA := lh hA
   have HIH := lh ih
   have HRR := lh hr
   have HBD := lh hbd
   have HEN := lh henv
   have HLL := lh hll
   have HLF := lh hleft
   clear hn hb hA hr ih hbd henv hll hleft
   go_enter Tryz.func90, Tryz.ntmps90
   go_wp2
   go_loopw [8] (fun i wr => ∃ (j : Nat) (dvj : Value), j ≤ n ∧ i = .int .i64 j ∧ Hid (Xar w bb b base x dv lo wr dvj lo (l ++ exDs ds ps (es.take j)) (left - exWs (es.take j)) ps)) (fun i _ => n - (intOf i).toNat)
   case atStart => exact ⟨0, dv, Nat.zero_le _, rfl, lh (by rw [List.take_zero, exDs, exWs, List.append_nil]; simpa using Xar.refl HBD.out)⟩
   case round =>
    obtain ⟨wo, rfl⟩ : ∃ wo : World, wo = wr := ⟨_, rfl⟩
    obtain ⟨j, dvj, hj, rfl, HW⟩ := hrel
    by_cases hlt : j < n
    · have hje : j < es.length := by rw [← HN.out]; exact hlt
      obtain ⟨pb, off, rfl, hpb, hnl, p0, p1, p2, p3, p4⟩ := HA.out j hje
      have hbe := Xar.below_base HBD.out HW.out
      have hpc : ∀ i, wo.cell? ⟨pb, i, none⟩ = w0.cell? ⟨pb, i, none⟩ := fun i => World.cell?_of_block ((hbe.block pb (by omega)).trans (HB.out.block pb hpb))
      have r0 := (hpc _).trans p0
      have r1 := (hpc _).trans p1
      have r2 := (hpc _).trans p2
      have r3 := (hpc _).trans p3
      have r4 := (hpc _).trans p4
      have hdt := Ycn ds ps hje
      have hwt := Ycp hje
      have hwl := Xsm es (j + 1)
      have hih := HIH.out j hje
      obtain ⟨FA, fc, hfs, -, -⟩ := (HRR.out j hje).slice
      obtain ⟨E, hE⟩ : ∃ E, E = es[j] := ⟨_, rfl⟩
      rw [← hE] at r0 r1 r2 r3 hdt hwt hih hnl
      have hep := Yco E
      have hed := Ycl ds ps E
      obtain ⟨k, hk⟩ : ∃ q, q = E.kind := ⟨_, rfl⟩
      obtain ⟨p, hp⟩ : ∃ q, q = E.pl := ⟨_, rfl⟩
      obtain ⟨m, hm⟩ : ∃ q, q = E.num := ⟨_, rfl⟩
      obtain ⟨s, hs⟩ : ∃ q, q = E.name := ⟨_, rfl⟩
      obtain ⟨ag, hag⟩ : ∃ q, q = E.args := ⟨_, rfl⟩
      obtain ⟨fv, hfv⟩ : ∃ q, q = f j := ⟨_, rfl⟩
      obtain ⟨S, hS⟩ : ∃ q, q = Xab s := ⟨_, rfl⟩
      rw [← hfv] at r4 hih
      obtain ⟨fn, hfn⟩ : ∃ fn, fn = es[j].args.length := ⟨_, rfl⟩
      rw [← hfn, ← hfv] at hfs
      subst hfs
      rw [← hs, ← hag] at hep
      rw [← hk, ← hp, ← hs, ← hag] at hed
      rw [← hag] at hih
      rw [← hk] at r0
      rw [← hp] at r1
      rw [← hm] at r2
      rw [← hs, ← hS] at r3
      obtain ⟨L0, hL0⟩ : ∃ q, q = l ++ exDs ds ps (es.take j) := ⟨_, rfl⟩
      obtain ⟨lf, hlf⟩ : ∃ q : Int, q = left - exWs (es.take j) := ⟨_, rfl⟩
      rw [← hL0, ← hlf] at HW
      have hLn : L0.length + exW E ≤ 900000 := by
       have h1 := HLL.out
       have h2 := Xjy ds ps (es.take j)
       rw [hL0, List.length_append]
       omega
      have hlf1 : (exW E : Int) ≤ lf := by have := HLF.out; omega
      have hlf2 : lf ≤ 40000 := by omega
      have hnx : l ++ exDs ds ps (es.take (j + 1)) = L0 ++ (exD1 ds ps k p s ++ exDs ds ps ag) := by rw [hdt, hed, hL0, List.append_assoc]
      have hnw : left - (exWs (es.take (j + 1)) : Nat) = lf - (1 + s.length : Nat) - (exWs ag : Nat) := by rw [hwt, hep, hlf]; omega
      have hd1 := Xxg ds ps k p s
      have hw0 : wo.heap.size ≤ (wo.alloc (.cells #[.int .i64 k, .int .i64 p, .int .i64 m, .string S, (.slice FA fn fc)] 152)).heap.size := by simp
      obtain ⟨X, hX⟩ : ∃ X : World, X = wo.alloc (.cells #[.int .i64 k, .int .i64 p, .int .i64 m, .string S, (.slice FA fn fc)] 152) := ⟨_, rfl⟩
      have hbx : Below wo.heap.size wo X := by rw [hX]; exact (Below.refl _ _).alloc (Nat.le_refl _) _
      have hrow : Xeh X wo.heap.size k p m S (.slice FA fn fc) := by rw [hX]; exact Xeh.new _ _ _ _ _ _
      have hBX := HW.out.1.below hbx
      have hEX := HEN.out.keep (hbe.trans (hbx.mono (by have := HBD.out.lt; have := HBD.out.bbb; have := hbe.size; omega)))
      have HCE : Hid (∀ V : World, Chg (Xhb bb b dvj lo) X V → V.cell? ⟨wo.heap.size, 0, none⟩ = some (.int .i64 k) ∧ V.cell? ⟨wo.heap.size, 1, none⟩ = some (.int .i64 p) ∧ V.cell? ⟨wo.heap.size, 3, none⟩ = some (.string S) ∧ V.cell? ⟨wo.heap.size, 4, none⟩ = some (.slice FA fn fc)) := lh fun V hV => by
       have hn : ¬ Xhb bb b dvj lo wo.heap.size := fun hm => by have := (HW.out.1.mine hm).2; omega
       have hk2 : Xeh V wo.heap.size k p m S (.slice FA fn fc) := (hV.block _ (Xac hrow) hn).trans hrow
       exact ⟨hk2.c0, hk2.c1, hk2.c3, hk2.c4⟩
      have HBX := lh hBX
      have HEX := lh hEX
      have HGX := lh (HW.out.below hbx)
      have HX := lh hX
      have HENV : Hid (∀ (V : World) (dv' : Value) (l' : List Dg) (lf' : Int), Xar X bb b base x dvj lo V dv' lo l' lf' ps → Env V base x ds) := lh fun V dv' l' lf' hV => HEX.out.keep (Xar.below_base HBX.out hV)
      have HWO : Hid (Below B w0 X) := lh (HB.out.trans ((hbe.mono hBb).trans (hbx.mono (by have := hbe.size; have := HBD.out.lt; have := HBD.out.bbb; omega))))
      have HARG : Hid (∀ (V : World) (dv' : Value) (l' : List Dg), Xar X bb b base x dvj lo V dv' lo l' (lf - (1 + s.length : Nat)) ps → l'.length ≤ L0.length + 1 →
        Calls Tryz.prog 90 #[.pointer (some ⟨bb, 0, none⟩), .slice FA fn fc] V fun e w' => e = .returned (.tuple #[]) ∧ ∃ dv2, Xar X bb b base x dvj lo w' dv2 lo (l' ++ exDs ds ps ag) (lf - (1 + s.length : Nat) - (exWs ag : Nat)) ps) := lh fun V dv' l' hV hl' =>
       (hih V bb b base x l' _ dv' lo ps ds hV.1 (HENV.out V _ _ _ hV) hBb (HWO.out.trans ((Xar.below_base HBX.out hV).mono hBb)) (by omega) (by omega) (by omega)).mono fun e w' ⟨h1, dv2, h2⟩ => ⟨h1, dv2, hV.trans h2⟩
      have hsl : s.length ≤ 40000 := by omega
      have HMO : Hid (Calls Tryz.prog 22 #[.pointer (some ⟨b, 0, none⟩), .string S, .string ⟨#[]⟩] X.drew fun e w' => e = .returned (.bool true) ∧ Xar X bb b base x dvj lo w' dvj lo L0 (lf - (1 + s.length : Nat)) ps) := lh (by
       have h1 := Xmn (hBX.nm.below (Xau X)) s [] (by omega) (by simp) (by omega) (by omega)
       rw [decide_eq_true (by simp; omega), ← hS] at h1
       exact h1.mono fun e w' ⟨e1, e2⟩ => ⟨e1, ((Xar.refl hBX).below (Xau X)).trans ((hBX.below (Xau X)).went (by simpa using e2))⟩)
      have HHA : Hid (∀ (V : World) (dv' : Value) (l' : List Dg) (lf' : Int), BdAt V bb b base x l' lf' dv' lo ps → Calls Tryz.prog 61 #[lo, .string S] V fun e w' => e = .returned (.bool (hasB ps s)) ∧ Below V.heap.size V w') := lh fun V dv' l' lf' hV => by
       rw [hS]; exact Xnn V hV.own.prs s
      have HUS : Hid (∀ (V : World) (ks : List Int) (kv : Value), Xdj V kv ks → Xar X bb b base x dvj lo V dvj lo L0 (lf - (1 + s.length : Nat)) ps → Calls Tryz.prog 60 #[.pointer (some ⟨b, 0, none⟩), .int .i64 p, .string S, kv] V
        fun e w' => e = .returned (.tuple #[]) ∧ ∃ dv', Xar X bb b base x dvj lo w' dv' lo (L0 ++ useD ds p s ks) (lf - (1 + s.length : Nat)) ps) := lh fun V ks kv hi hV => by
       rw [hS]
       exact (Xrt hV.1.nm (HENV.out V _ _ _ hV) (by omega) p s hsl ks kv hi).mono fun e w' ⟨e1, dv', e2⟩ => ⟨e1, dv', hV.trans (hV.1.went e2)⟩
      have HUL : Hid (∀ ks : List Int, (L0 ++ useD ds p s ks).length ≤ L0.length + 1) := lh fun ks => by rw [List.length_append]; have := Xht ds p s ks; omega
      have HNX := lh hnx
      have HNW := lh hnw
      have hslo : ∃ A c, lo = .slice A ps.length c := by obtain ⟨A, c, h1, -⟩ := HBX.out.own.prs; exact ⟨A, c, h1⟩
      have c0X := HBX.out.c0
      have c1X := HBX.out.c1
      obtain ⟨e0X, e1X, e3X, e4X⟩ := HCE.out X (Chg.refl _ _)
      clear hfn hdt hwt hih hep hed hk hp hm hs hag hfv hL0 hlf hnx hnw hd1 hX hbx hrow hBX hEX hE hje hpc hbe p0 p1 p2 p3 p4 hwl hLn hlf1 hlf2 hw0 hnl hsl hS
      go_upto_region 3 with fail
      rw [← HX.out]
      go_still_tail 6, (by kernel_rfl)
      change wpList _ _ _ _ _ X.drew
      go_wp2_with (first
       | ((with_reducible refine HMO.out.mono ?_); rintro e w1 ⟨rfl, hw1⟩; have HW1 := lh hw1; have c0_1 := hw1.1.c0; have c1_1 := hw1.1.c1; obtain ⟨e0_1, e1_1, e3_1, e4_1⟩ := HCE.out w1 hw1.2.2.2; clear hw1))
      clear c0X c1X e0X e1X e3X e4X HMO
      by_cases hk4 : k = 4
      · subst hk4
        have d0_1 : w1.drew.cell? ⟨bb, 1, none⟩ = some lo := c1_1
        obtain ⟨x0, x1, x3, x4⟩ := HCE.out w1.drew (HW1.out.2.2.2.drew)
        have HHA1 := lh (HHA.out w1.drew _ _ _ (HW1.out.1.below (Xau w1)))
        clear hslo
        cases hq : hasB ps s with
        | true =>
          have HF : Hid (exD1 ds ps 4 p s = []) := lh (by unfold exD1; rw [if_neg (fun h => by rw [hq] at h; cases h.2), if_neg (by decide)])
          rw [hq] at HHA1
          clear hq
          go_still_tail 10, (by kernel_rfl)
          change wpList _ _ _ _ _ w1.drew
          go_upto_region 6 with (first
           | ((with_reducible refine HHA1.out.mono ?_); rintro e w2 ⟨rfl, hb2⟩; have HW2 := lh ((HW1.out.below (Xau w1)).below hb2); obtain ⟨e0_2, e1_2, e3_2, e4_2⟩ := HCE.out w2 HW2.out.2.2.2; clear hb2))
          clear d0_1 x0 x1 x3 x4 e0_1 e1_1 e3_1 e4_1
          have HAR := lh (HARG.out w2 _ _ HW2.out (by first | exact HUL.out _ | omega))
          go_wp2_with (first
           | ((with_reducible refine HAR.out.mono ?_); rintro e w9 ⟨rfl, dv9, hw9⟩; have HW9 := lh hw9; clear hw9))
          go_roundw
          case rel => exact ⟨j + 1, dv9, by omega, by go_num, lh (by
           have h9 := HGX.out.trans HW9.out
           rw [HNX.out, HNW.out, HF.out]
           first | exact h9 | (rw [List.append_assoc] at h9; exact h9) | (rw [List.nil_append]; exact h9))⟩
          case measure => first | (simp [intOf]; done) | (simp [intOf]; omega)
        | false =>
          have HF : Hid (exD1 ds ps 4 p s = useD ds p s [4, 5]) := lh (by unfold exD1; rw [if_pos ⟨rfl, hq⟩])
          rw [hq] at HHA1
          clear hq
          go_still_tail 10, (by kernel_rfl)
          change wpList _ _ _ _ _ w1.drew
          go_upto_region 5 with (first
           | ((with_reducible refine HHA1.out.mono ?_); rintro e w2 ⟨rfl, hb2⟩; have HW2 := lh ((HW1.out.below (Xau w1)).below hb2); obtain ⟨e0_2, e1_2, e3_2, e4_2⟩ := HCE.out w2 HW2.out.2.2.2; clear hb2))
          clear d0_1 x0 x1 x3 x4 e0_1 e1_1 e3_1 e4_1
          have HYB : Hid (Xar X bb b base x dvj lo ((w2.alloc (.cells #[.int .i64 4, .int .i64 5] 3)).drew) dvj lo L0 (lf - (1 + s.length : Nat)) ps) := lh ((HW2.out.below ((Below.refl _ _).alloc (Nat.le_refl _) _)).below (Xau _))
          have HUC := lh (HUS.out ((w2.alloc (.cells #[.int .i64 4, .int .i64 5] 3)).drew) [4, 5] _ ((Xdj.two w2 4 5).below (Xau _)) HYB.out)
          have gc0 : w2.drew.cell? ⟨bb, 0, none⟩ = some (.pointer (some ⟨b, 0, none⟩)) := HW2.out.1.c0
          obtain ⟨ge0, ge1, ge3, ge4⟩ := HCE.out w2.drew (HW2.out.2.2.2.drew)
          have hc0 := HYB.out.1.c0
          obtain ⟨he0, he1, he3, he4⟩ := HCE.out _ HYB.out.2.2.2
          go_region_law (first
           | (go_simp
              go_at_call 60
              refine HUC.out.mono ?_
              rintro e w5 ⟨rfl, dv5, hw5⟩
              have HW5 := lh hw5
              obtain ⟨e0_5, e1_5, e3_5, e4_5⟩ := HCE.out w5 hw5.2.2.2
              clear hw5))
          all_goals clear gc0 ge0 ge1 ge3 ge4 hc0 he0 he1 he3 he4
          all_goals clear e0_2 e1_2 e3_2 e4_2
          all_goals
           have HAR := lh (HARG.out w5 _ _ HW5.out (by first | exact HUL.out _ | omega))
           go_wp2_with (first
            | ((with_reducible refine HAR.out.mono ?_); rintro e w9 ⟨rfl, dv9, hw9⟩; have HW9 := lh hw9; clear hw9))
           go_roundw
           case rel => exact ⟨j + 1, dv9, by omega, by go_num, lh (by
            have h9 := HGX.out.trans HW9.out
            rw [HNX.out, HNW.out, HF.out]
            first | exact h9 | (rw [List.append_assoc] at h9; exact h9) | (rw [List.nil_append]; exact h9))⟩
           case measure => first | (simp [intOf]; done) | (simp [intOf]; omega)
      · have q4 : (k == 4) = false := by simp; exact hk4
        go_quiet (fail)
        generalize hwq : w1.drewN _ = w2
        have HW2 := lh (show Xar X bb b base x dvj lo w2 dvj lo L0 (lf - (1 + s.length : Nat)) ps from hwq ▸ HW1.out.below (Xmx w1 _))
        obtain ⟨e0_2, e1_2, e3_2, e4_2⟩ := HCE.out w2 HW2.out.2.2.2
        clear hwq e0_1 e1_1 e3_1 e4_1 c0_1 c1_1
        by_cases hk11 : k = 11
        · subst hk11
          have HF : Hid (exD1 ds ps 11 p s = useD ds p s [3]) := lh (by unfold exD1; rw [if_neg (fun h => by cases h.1), if_pos rfl])
          go_upto_region 7 with fail
          have HYB : Hid (Xar X bb b base x dvj lo ((w2.alloc (.cells #[.int .i64 3] 3)).drew) dvj lo L0 (lf - (1 + s.length : Nat)) ps) := lh ((HW2.out.below ((Below.refl _ _).alloc (Nat.le_refl _) _)).below (Xau _))
          have HUC := lh (HUS.out ((w2.alloc (.cells #[.int .i64 3] 3)).drew) [3] _ ((Xdj.one w2 3).below (Xau _)) HYB.out)
          have gc0 : w2.drew.cell? ⟨bb, 0, none⟩ = some (.pointer (some ⟨b, 0, none⟩)) := HW2.out.1.c0
          obtain ⟨ge0, ge1, ge3, ge4⟩ := HCE.out w2.drew (HW2.out.2.2.2.drew)
          have hc0 := HYB.out.1.c0
          obtain ⟨he0, he1, he3, he4⟩ := HCE.out _ HYB.out.2.2.2
          go_region_law (first
           | (go_simp
              go_at_call 60
              refine HUC.out.mono ?_
              rintro e w5 ⟨rfl, dv5, hw5⟩
              have HW5 := lh hw5
              obtain ⟨e0_5, e1_5, e3_5, e4_5⟩ := HCE.out w5 hw5.2.2.2
              clear hw5))
          all_goals clear gc0 ge0 ge1 ge3 ge4 hc0 he0 he1 he3 he4
          all_goals clear e0_2 e1_2 e3_2 e4_2
          all_goals
           have HAR := lh (HARG.out w5 _ _ HW5.out (by first | exact HUL.out _ | omega))
           go_wp2_with (first
            | ((with_reducible refine HAR.out.mono ?_); rintro e w9 ⟨rfl, dv9, hw9⟩; have HW9 := lh hw9; clear hw9))
           go_roundw
           case rel => exact ⟨j + 1, dv9, by omega, by go_num, lh (by
            have h9 := HGX.out.trans HW9.out
            rw [HNX.out, HNW.out, HF.out]
            first | exact h9 | (rw [List.append_assoc] at h9; exact h9) | (rw [List.nil_append]; exact h9))⟩
           case measure => first | (simp [intOf]; done) | (simp [intOf]; omega)
        · have q11 : (k == 11) = false := by simp; exact hk11
          have HF : Hid (exD1 ds ps k p s = []) := lh (by unfold exD1; rw [if_neg (fun h => hk4 h.1), if_neg hk11])
          clear hk4 hk11
          have HAR := lh (HARG.out w2 _ _ HW2.out (by first | exact HUL.out _ | omega))
          go_wp2_with (first
           | ((with_reducible refine HAR.out.mono ?_); rintro e w9 ⟨rfl, dv9, hw9⟩; have HW9 := lh hw9; clear hw9))
          go_roundw
          case rel => exact ⟨j + 1, dv9, by omega, by go_num, lh (by
           have h9 := HGX.out.trans HW9.out
           rw [HNX.out, HNW.out, HF.out]
           first | exact h9 | (rw [List.append_assoc] at h9; exact h9) | (rw [List.nil_append]; exact h9))⟩
          case measure => first | (simp [intOf]; done) | (simp [intOf]; omega)
    · have HT : Hid (es.take j = es) := lh (List.take_of_length_le (by rw [← HN.out]; omega))
      go_wp2
      go_end0
      have := HW.out
      rw [HT.out] at this
      exact ⟨rfl, _, this⟩
end Go.Proofs.YtbckeljbpknbdaaGreatDoor
