/- Xf; Xg; Xh; Xi; Xj; Ya; Ro -/
import Derived.Test.YtmbkjabjcphkbaaDoorZb1
import Derived.Test.YtmbkjabjcphkbaaDoorTie
import Derived.Test.YtmbkjabjcphkbaaDoorCards
import Derived.LaidMore
import Derived.LaidOnce
import Derived.Handed
import Derived.Stop.LaidErr
import Derived.Lib.LaidTab
import Derived.SevenTiedAt
import Derived.JoinedOf
import Derived.Test.YtmbkjabjcphkbaaDoorRows
import Derived.ProofKit
import Derived.Deep.Slices
import Derived.OpenShut
import Derived.ChangeMaps5
section
/- The walks of a declaration, kind by kind. -/
set_option linter.unusedVariables false
namespace Go.Proofs.YtmbkjabjcphkbaaDoor
open Go.RowKit

set_option maxRecDepth 100000 in
set_option maxHeartbeats 4000000 in
theorem decl_4 {w0 w : World} {Bc Ba B : Nat} {u : Value} {T : List (List UInt8)} {p n : Int} {nm ty : List UInt8} {ps : List Pr} {bd : List Sm} {vp vb : Value} (htab : Tab B w0) (hb : Below B w0 w) (hB : B ≤ w.heap.size) (hp : PenAt w Bc Ba B u T) (hnl : nm.length ≤ 40000) (htl : ty.length ≤ 40000)
    (hps : PrsIn w0 (· < B) ps vp) (hsm : ∀ p ∈ ps, p.name.length ≤ 40000 ∧ p.type.length ≤ 40000) (hbd : WritesB w0 B bd vb) (hbs : ∃ A c, vb = .slice A bd.length c) (hq : nameB nm = true) :
    Calls Tryd.prog 63 #[penV Bc Ba, .agg #[.int .i64 4, .int .i64 p, .int .i64 n, .string (strOf nm), .string (strOf ty), vp, vb]] w (PenPost w Bc Ba B u (adv T (penD ⟨4, p, n, nm, ty, ps, bd⟩))) := by
  obtain ⟨Ap, cp, hvp, _, _, _⟩ := id hps
  subst hvp
  obtain ⟨Ab, cb, hvb⟩ := hbs
  subst hvb
  obtain ⟨X, hX⟩ : ∃ X : World, X = w.alloc (.cells #[.int .i64 4, .int .i64 p, .int .i64 n, .string (strOf nm), .string (strOf ty), .slice Ap ps.length cp, .slice Ab bd.length cb] 53) := ⟨_, rfl⟩
  obtain ⟨g, hg⟩ : ∃ g, g = w.heap.size := ⟨_, rfl⟩
  have hd : DcBlk X g 4 p n (strOf nm) (strOf ty) (.slice Ap ps.length cp) (.slice Ab bd.length cb) := by rw [hX, hg]; exact DcBlk.new _ _ _ _ _ _ _ _
  have hw : Went w Bc Ba B u X u T := by rw [hX]; exact (Went.refl hp).alloc _
  have hg1 : Bc < g := by rw [hg]; exact lt_of_heap hp.cnt
  have hg2 : Ba < g := by rw [hg]; exact lt_of_heap hp.buf
  have hwg : w.heap.size ≤ g := by rw [hg]; exact Nat.le_refl _
  have hsz : (strOf nm).size ≤ 40000 := by rw [Lib.size_eq, strOf_data]; exact hnl
  have HX := Lib.hid hX
  have HG := Lib.hid hg
  have HD := Lib.hid hd
  have HW := Lib.hid hw
  have HPS := Lib.hid hps
  have HSM := Lib.hid hsm
  clear hX hg hd hw hps hsm
  have HEQ := Lib.hid (congrArg (adv T) (penD_4 p n nm ty ps bd hq))
  have HTN := Lib.hid (takeName_yes ⟨g, 3, none⟩ (strOf nm) X HD.out.c3 (HD.out.frz 3) hsz hq)
  unfold penV
  go_enter Tryd.func63, Tryd.ntmps63
  go_wp2_with fail
  rw [← HX.out, ← HG.out]
  refine HTN.out.mono ?_
  rintro e1 w1 ⟨rfl, wm, hbl, hw1⟩
  have HW1 : Hid (Went w Bc Ba B u w1 u T) := Lib.hid (by rw [hw1]; exact (HW.out.below hbl).setCell _ _ hwg ((HD.out).apart (HW.out).1 hg1 hg2))
  have HD1 := Lib.hid (show DcBlk w1 g 4 p n (strOf []) (strOf ty) (.slice Ap ps.length cp) (.slice Ab bd.length cb) from by rw [hw1]; exact (HD.out.below hbl HD.out.lt).s3 _)
  clear hbl hw1
  have a2 := (HD1.out).c0
  go_wp2_with fail
  refine (put_new (Went.refl (HW1.out).1) (Nat.le_trans hB (HW1.out).2.2.size) [wordS 1, nm] (by intro t ht; simp at ht; have := hnl; have := htl; first | (rcases ht with rfl | rfl | rfl | rfl <;> first | decide | assumption | simp) | (rcases ht with rfl | rfl | rfl <;> first | decide | assumption | simp) | (rcases ht with rfl | rfl <;> first | decide | assumption | simp) | (rw [ht]; first | decide | assumption) | (rw [ht]; simp)) (by simp)).mono ?_
  rintro e3 w3 hpost
  cases hR : adv T (some [wordS 1, nm]) with
  | none =>
    rw [hR] at hpost
    obtain ⟨rfl, hch⟩ := hpost
    have HNO := Lib.hid ((HEQ.out).trans (adv_cat_none hR _))
    have HCH := Lib.hid ((HW1.out).fell hch)
    clear hR hch
    unfold boom
    go_wp2
    refine ⟨rfl, ?_⟩
    rw [HNO.out]
    exact ⟨rfl, HCH.out⟩
  | some T3 =>
    rw [hR] at hpost
    obtain ⟨rfl, u3, hwent⟩ := hpost
    have HW3 := Lib.hid ((HW1.out).trans hwent)
    have HD3 := Lib.hid ((HD1.out).went (HW1.out).1 hg1 hg2 hwent)
    have HEQ3 := Lib.hid ((HEQ.out).trans (adv_cat_some hR _))
    clear hwent hR
    go_wp2_with fail
    refine (take_string ⟨g, 4, none⟩ (strOf ty) _ (HD3.out).c4 ((HD3.out).frz 4)).mono ?_
    rintro e4 w4 ⟨rfl, hw4⟩
    have HW4 : Hid (Went w Bc Ba B u w4 _ T3) := Lib.hid (by rw [hw4]; exact (HW3.out).setCell _ _ hwg ((HD3.out).apart (HW3.out).1 hg1 hg2))
    have HD4 := Lib.hid (show DcBlk w4 g 4 p n (strOf []) (strOf []) (.slice Ap ps.length cp) (.slice Ab bd.length cb) from by rw [hw4]; exact (HD3.out).s4 _)
    clear hw4
    go_wp2_with fail
    refine (types_any (HW4.out).1 (Nat.le_trans hB (HW4.out).2.2.size) ty htl).mono ?_
    rintro e5 w5 hpost
    cases hR : adv T3 (tyT ty) with
    | none =>
      rw [hR] at hpost
      obtain ⟨rfl, hch⟩ := hpost
      have HNO := Lib.hid ((HEQ3.out).trans (adv_cat_none hR _))
      have HCH := Lib.hid ((HW4.out).fell hch)
      clear hR hch
      unfold boom
      go_wp2
      refine ⟨rfl, ?_⟩
      rw [HNO.out]
      exact ⟨rfl, HCH.out⟩
    | some T5 =>
      rw [hR] at hpost
      obtain ⟨rfl, u5, hwent⟩ := hpost
      have HW5 := Lib.hid ((HW4.out).trans hwent)
      have HD5 := Lib.hid ((HD4.out).went (HW4.out).1 hg1 hg2 hwent)
      have HEQ5 := Lib.hid ((HEQ3.out).trans (adv_cat_some hR _))
      clear hwent hR
      go_wp2_with fail
      refine (put_new (Went.refl (HW5.out).1) (Nat.le_trans hB (HW5.out).2.2.size) [[59]] (by intro t ht; simp at ht; have := hnl; have := htl; first | (rcases ht with rfl | rfl | rfl | rfl <;> first | decide | assumption | simp) | (rcases ht with rfl | rfl | rfl <;> first | decide | assumption | simp) | (rcases ht with rfl | rfl <;> first | decide | assumption | simp) | (rw [ht]; first | decide | assumption) | (rw [ht]; simp)) (by simp)).mono ?_
      rintro e6 w6 hpost
      cases hR : adv T5 (some [[59]]) with
      | none =>
        rw [hR] at hpost
        obtain ⟨rfl, hch⟩ := hpost
        have HNO := Lib.hid ((HEQ5.out).trans (adv_cat_none hR _))
        have HCH := Lib.hid ((HW5.out).fell hch)
        clear hR hch
        unfold boom
        go_wp2
        refine ⟨rfl, ?_⟩
        rw [HNO.out]
        exact ⟨rfl, HCH.out⟩
      | some T6 =>
        rw [hR] at hpost
        obtain ⟨rfl, u6, hwent⟩ := hpost
        have HW6 := Lib.hid ((HW5.out).trans hwent)
        have HD6 := Lib.hid ((HD5.out).went (HW5.out).1 hg1 hg2 hwent)
        have HEQ6 := Lib.hid ((HEQ5.out).trans (adv_cat_some hR _))
        clear hwent hR
        have c2 := (HD6.out).c2
        have c4 := (HD6.out).c4
        have c5 := (HD6.out).c5
        have c6 := (HD6.out).c6
        have hz0 : (strOf []).toList = [] := strOf_toList []
        obtain ⟨nx, hnx⟩ : ∃ m, m = ps.length := ⟨_, rfl⟩
        rw [← hnx] at c5
        obtain ⟨nb, hnb⟩ : ∃ m, m = bd.length := ⟨_, rfl⟩
        rw [← hnb] at c6
        by_cases hn : n = 0
        case neg =>
          have HNO := Lib.hid ((HEQ6.out).trans (show adv T6 (need _ (some [])) = none from by rw [need_no (fun h => hn h.1)]; rfl))
          have hs1 : (n == 0) = false := by rw [beq_eq_false_iff_ne]; exact hn
          clear hnx hnb hn
          go_wp2_with fail
          refine (must_no _).mono ?_
          rintro e9 w9 ⟨rfl, rfl⟩
          unfold boom
          go_wp2
          refine ⟨rfl, ?_⟩
          rw [HNO.out]
          exact ⟨rfl, (HW6.out).2.2⟩
        by_cases hx : ps.length = 0
        case neg =>
          have HNO := Lib.hid ((HEQ6.out).trans (show adv T6 (need _ (some [])) = none from by rw [need_no (fun h => hx h.2.1)]; rfl))
          subst hn
          have hl1 : (nx == 0) = false := by rw [beq_eq_false_iff_ne]; omega
          have hl2 : ((nx : Int) == 0) = false := by rw [beq_eq_false_iff_ne]; omega
          clear hnx hnb hx
          go_wp2_with fail
          refine (must_no _).mono ?_
          rintro e9 w9 ⟨rfl, rfl⟩
          unfold boom
          go_wp2
          refine ⟨rfl, ?_⟩
          rw [HNO.out]
          exact ⟨rfl, (HW6.out).2.2⟩
        by_cases hbl0 : bd.length = 0
        case neg =>
          have HNO := Lib.hid ((HEQ6.out).trans (show adv T6 (need _ (some [])) = none from by rw [need_no (fun h => hbl0 h.2.2)]; rfl))
          subst hn
          obtain rfl : nx = 0 := by omega
          have hl1 : (nb == 0) = false := by rw [beq_eq_false_iff_ne]; omega
          have hl2 : ((nb : Int) == 0) = false := by rw [beq_eq_false_iff_ne]; omega
          clear hnx hnb hx hbl0
          go_wp2_with fail
          refine (must_no _).mono ?_
          rintro e9 w9 ⟨rfl, rfl⟩
          unfold boom
          go_wp2
          refine ⟨rfl, ?_⟩
          rw [HNO.out]
          exact ⟨rfl, (HW6.out).2.2⟩
        have HFIN := Lib.hid ((HEQ6.out).trans (show adv T6 (need _ (some [])) = some T6 from by rw [need_yes ⟨hn, hx, hbl0⟩]; exact adv_nil (HW6.out).1.fit))
        subst hn
        obtain rfl : nx = 0 := by omega
        obtain rfl : nb = 0 := by omega
        clear hnx hnb hx hbl0
        go_wp2_with fail
        refine (must_yes _).mono ?_
        rintro e9 w9 ⟨rfl, rfl⟩
        go_wp2
        go_end0
        rw [HFIN.out]
        exact ⟨rfl, _, HW6.out⟩

set_option maxRecDepth 100000 in
set_option maxHeartbeats 4000000 in
theorem decl_8 {w0 w : World} {Bc Ba B : Nat} {u : Value} {T : List (List UInt8)} {p n : Int} {nm ty : List UInt8} {ps : List Pr} {bd : List Sm} {vp vb : Value} (htab : Tab B w0) (hb : Below B w0 w) (hB : B ≤ w.heap.size) (hp : PenAt w Bc Ba B u T) (hnl : nm.length ≤ 40000) (htl : ty.length ≤ 40000)
    (hps : PrsIn w0 (· < B) ps vp) (hsm : ∀ p ∈ ps, p.name.length ≤ 40000 ∧ p.type.length ≤ 40000) (hbd : WritesB w0 B bd vb) (hbs : ∃ A c, vb = .slice A bd.length c) (hq : nameB nm = true) :
    Calls Tryd.prog 63 #[penV Bc Ba, .agg #[.int .i64 8, .int .i64 p, .int .i64 n, .string (strOf nm), .string (strOf ty), vp, vb]] w (PenPost w Bc Ba B u (adv T (penD ⟨8, p, n, nm, ty, ps, bd⟩))) := by
  obtain ⟨Ap, cp, hvp, _, _, _⟩ := id hps
  subst hvp
  obtain ⟨Ab, cb, hvb⟩ := hbs
  subst hvb
  obtain ⟨X, hX⟩ : ∃ X : World, X = w.alloc (.cells #[.int .i64 8, .int .i64 p, .int .i64 n, .string (strOf nm), .string (strOf ty), .slice Ap ps.length cp, .slice Ab bd.length cb] 53) := ⟨_, rfl⟩
  obtain ⟨g, hg⟩ : ∃ g, g = w.heap.size := ⟨_, rfl⟩
  have hd : DcBlk X g 8 p n (strOf nm) (strOf ty) (.slice Ap ps.length cp) (.slice Ab bd.length cb) := by rw [hX, hg]; exact DcBlk.new _ _ _ _ _ _ _ _
  have hw : Went w Bc Ba B u X u T := by rw [hX]; exact (Went.refl hp).alloc _
  have hg1 : Bc < g := by rw [hg]; exact lt_of_heap hp.cnt
  have hg2 : Ba < g := by rw [hg]; exact lt_of_heap hp.buf
  have hwg : w.heap.size ≤ g := by rw [hg]; exact Nat.le_refl _
  have hsz : (strOf nm).size ≤ 40000 := by rw [Lib.size_eq, strOf_data]; exact hnl
  have HX := Lib.hid hX
  have HG := Lib.hid hg
  have HD := Lib.hid hd
  have HW := Lib.hid hw
  have HPS := Lib.hid hps
  have HSM := Lib.hid hsm
  clear hX hg hd hw hps hsm
  have HEQ := Lib.hid (congrArg (adv T) (penD_8 p n nm ty ps bd hq))
  have HTN := Lib.hid (takeName_yes ⟨g, 3, none⟩ (strOf nm) X HD.out.c3 (HD.out.frz 3) hsz hq)
  unfold penV
  go_enter Tryd.func63, Tryd.ntmps63
  go_wp2_with fail
  rw [← HX.out, ← HG.out]
  refine HTN.out.mono ?_
  rintro e1 w1 ⟨rfl, wm, hbl, hw1⟩
  have HW1 : Hid (Went w Bc Ba B u w1 u T) := Lib.hid (by rw [hw1]; exact (HW.out.below hbl).setCell _ _ hwg ((HD.out).apart (HW.out).1 hg1 hg2))
  have HD1 := Lib.hid (show DcBlk w1 g 8 p n (strOf []) (strOf ty) (.slice Ap ps.length cp) (.slice Ab bd.length cb) from by rw [hw1]; exact (HD.out.below hbl HD.out.lt).s3 _)
  clear hbl hw1
  have a2 := (HD1.out).c0
  go_wp2_with fail
  refine (put_new (Went.refl (HW1.out).1) (Nat.le_trans hB (HW1.out).2.2.size) [[116, 104, 114, 101, 97, 100], nm] (by intro t ht; simp at ht; have := hnl; have := htl; first | (rcases ht with rfl | rfl | rfl | rfl <;> first | decide | assumption | simp) | (rcases ht with rfl | rfl | rfl <;> first | decide | assumption | simp) | (rcases ht with rfl | rfl <;> first | decide | assumption | simp) | (rw [ht]; first | decide | assumption) | (rw [ht]; simp)) (by simp)).mono ?_
  rintro e3 w3 hpost
  cases hR : adv T (some [[116, 104, 114, 101, 97, 100], nm]) with
  | none =>
    rw [hR] at hpost
    obtain ⟨rfl, hch⟩ := hpost
    have HNO := Lib.hid ((HEQ.out).trans (adv_cat_none hR _))
    have HCH := Lib.hid ((HW1.out).fell hch)
    clear hR hch
    unfold boom
    go_wp2
    refine ⟨rfl, ?_⟩
    rw [HNO.out]
    exact ⟨rfl, HCH.out⟩
  | some T3 =>
    rw [hR] at hpost
    obtain ⟨rfl, u3, hwent⟩ := hpost
    have HW3 := Lib.hid ((HW1.out).trans hwent)
    have HD3 := Lib.hid ((HD1.out).went (HW1.out).1 hg1 hg2 hwent)
    have HEQ3 := Lib.hid ((HEQ.out).trans (adv_cat_some hR _))
    clear hwent hR
    go_wp2_with fail
    refine (take_stmts ⟨g, 6, none⟩ Ab bd.length cb _ (HD3.out).c6 ((HD3.out).frz 6)).mono ?_
    rintro e4 w4 ⟨rfl, hw4⟩
    have HW4 : Hid (Went w Bc Ba B u w4 _ T3) := Lib.hid (by rw [hw4]; exact (HW3.out).setCell _ _ hwg ((HD3.out).apart (HW3.out).1 hg1 hg2))
    have HD4 := Lib.hid (show DcBlk w4 g 8 p n (strOf []) (strOf ty) (.slice Ap ps.length cp) (.slice none 0 0) from by rw [hw4]; exact (HD3.out).s6 _)
    clear hw4
    go_wp2_with fail
    have HCB := Lib.hid (hbd w4 Bc Ba _ _ 1 (hb.trans ((HW4.out).2.2.below hB (fun x hx => (hp.mine hx).1))) (Nat.le_trans hB (HW4.out).2.2.size) (HW4.out).1 (by omega) (by omega))
    unfold penV at HCB
    refine (HCB.out).mono ?_
    rintro e5 w5 hpost
    cases hR : adv T3 (penB bd 1) with
    | none =>
      rw [hR] at hpost
      obtain ⟨rfl, hch⟩ := hpost
      have HNO := Lib.hid ((HEQ3.out).trans (adv_cat_none hR _))
      have HCH := Lib.hid ((HW4.out).fell hch)
      clear hR hch
      unfold boom
      go_wp2
      refine ⟨rfl, ?_⟩
      rw [HNO.out]
      exact ⟨rfl, HCH.out⟩
    | some T5 =>
      rw [hR] at hpost
      obtain ⟨rfl, u5, hwent⟩ := hpost
      have HW5 := Lib.hid ((HW4.out).trans hwent)
      have HD5 := Lib.hid ((HD4.out).went (HW4.out).1 hg1 hg2 hwent)
      have HEQ5 := Lib.hid ((HEQ3.out).trans (adv_cat_some hR _))
      clear hwent hR
      have c2 := (HD5.out).c2
      have c4 := (HD5.out).c4
      have c5 := (HD5.out).c5
      have c6 := (HD5.out).c6
      have hz0 : (strOf []).toList = [] := strOf_toList []
      obtain ⟨nx, hnx⟩ : ∃ m, m = ps.length := ⟨_, rfl⟩
      rw [← hnx] at c5
      by_cases hn : n = 0
      case neg =>
        have HNO := Lib.hid ((HEQ5.out).trans (show adv T5 (need _ (some [])) = none from by rw [need_no (fun h => hn h.1)]; rfl))
        have hs1 : (n == 0) = false := by rw [beq_eq_false_iff_ne]; exact hn
        clear hnx hn
        go_wp2_with fail
        refine (must_no _).mono ?_
        rintro e9 w9 ⟨rfl, rfl⟩
        unfold boom
        go_wp2
        refine ⟨rfl, ?_⟩
        rw [HNO.out]
        exact ⟨rfl, (HW5.out).2.2⟩
      by_cases ht : ty = []
      case neg =>
        have HNO := Lib.hid ((HEQ5.out).trans (show adv T5 (need _ (some [])) = none from by rw [need_no (fun h => ht h.2.1)]; rfl))
        subst hn
        have hs1 : ¬ (strOf ty).toList = [] := by rw [strOf_toList]; exact ht
        clear hnx ht
        go_wp2_with fail
        refine (must_no _).mono ?_
        rintro e9 w9 ⟨rfl, rfl⟩
        unfold boom
        go_wp2
        refine ⟨rfl, ?_⟩
        rw [HNO.out]
        exact ⟨rfl, (HW5.out).2.2⟩
      by_cases hx : ps.length = 0
      case neg =>
        have HNO := Lib.hid ((HEQ5.out).trans (show adv T5 (need _ (some [])) = none from by rw [need_no (fun h => hx h.2.2)]; rfl))
        subst hn
        subst ht
        have hl1 : (nx == 0) = false := by rw [beq_eq_false_iff_ne]; omega
        have hl2 : ((nx : Int) == 0) = false := by rw [beq_eq_false_iff_ne]; omega
        clear hnx hx
        go_wp2_with fail
        refine (must_no _).mono ?_
        rintro e9 w9 ⟨rfl, rfl⟩
        unfold boom
        go_wp2
        refine ⟨rfl, ?_⟩
        rw [HNO.out]
        exact ⟨rfl, (HW5.out).2.2⟩
      have HFIN := Lib.hid ((HEQ5.out).trans (show adv T5 (need _ (some [])) = some T5 from by rw [need_yes ⟨hn, ht, hx⟩]; exact adv_nil (HW5.out).1.fit))
      subst hn
      subst ht
      obtain rfl : nx = 0 := by omega
      clear hnx hx
      go_wp2_with fail
      refine (must_yes _).mono ?_
      rintro e9 w9 ⟨rfl, rfl⟩
      go_wp2
      go_end0
      rw [HFIN.out]
      exact ⟨rfl, _, HW5.out⟩

end Go.Proofs.YtmbkjabjcphkbaaDoor
end
section
/- The walks of a declaration, kind by kind. -/
set_option linter.unusedVariables false
namespace Go.Proofs.YtmbkjabjcphkbaaDoor
open Go.RowKit

theorem fields_q {w0 w : World} {Bc Ba B : Nat} {u : Value} {T : List (List UInt8)} (hb : Below B w0 w) (hB : B ≤ w.heap.size) (hp : PenAt w Bc Ba B u T) (ps : List Pr) {V : Value} (hr : PrsIn w0 (· < B) ps V) (hsm : ∀ p ∈ ps, p.name.length ≤ 40000 ∧ p.type.length ≤ 40000) :
    Calls Tryd.prog 87 #[penV Bc Ba, V] w (PenPost w Bc Ba B u (adv T (fieldsQ ps))) := fields_any hb hB hp ps hr hsm

theorem params_q {w0 w : World} {Bc Ba B : Nat} {u : Value} {T : List (List UInt8)} (hb : Below B w0 w) (hB : B ≤ w.heap.size) (hp : PenAt w Bc Ba B u T) (ps : List Pr) {V : Value} (hr : PrsIn w0 (· < B) ps V) (hsm : ∀ p ∈ ps, p.name.length ≤ 40000 ∧ p.type.length ≤ 40000) :
    Calls Tryd.prog 89 #[penV Bc Ba, V] w (PenPost w Bc Ba B u (adv T (paramsQ ps))) := params_any hb hB hp ps hr hsm

set_option maxRecDepth 100000 in
set_option maxHeartbeats 4000000 in
theorem decl_3 {w0 w : World} {Bc Ba B : Nat} {u : Value} {T : List (List UInt8)} {p n : Int} {nm ty : List UInt8} {ps : List Pr} {bd : List Sm} {vp vb : Value} (htab : Tab B w0) (hb : Below B w0 w) (hB : B ≤ w.heap.size) (hp : PenAt w Bc Ba B u T) (hnl : nm.length ≤ 40000) (htl : ty.length ≤ 40000)
    (hps : PrsIn w0 (· < B) ps vp) (hsm : ∀ p ∈ ps, p.name.length ≤ 40000 ∧ p.type.length ≤ 40000) (hbd : WritesB w0 B bd vb) (hbs : ∃ A c, vb = .slice A bd.length c) (hq : nameB nm = true) :
    Calls Tryd.prog 63 #[penV Bc Ba, .agg #[.int .i64 3, .int .i64 p, .int .i64 n, .string (strOf nm), .string (strOf ty), vp, vb]] w (PenPost w Bc Ba B u (adv T (penD ⟨3, p, n, nm, ty, ps, bd⟩))) := by
  obtain ⟨Ap, cp, hvp, _, _, _⟩ := id hps
  subst hvp
  obtain ⟨Ab, cb, hvb⟩ := hbs
  subst hvb
  obtain ⟨X, hX⟩ : ∃ X : World, X = w.alloc (.cells #[.int .i64 3, .int .i64 p, .int .i64 n, .string (strOf nm), .string (strOf ty), .slice Ap ps.length cp, .slice Ab bd.length cb] 53) := ⟨_, rfl⟩
  obtain ⟨g, hg⟩ : ∃ g, g = w.heap.size := ⟨_, rfl⟩
  have hd : DcBlk X g 3 p n (strOf nm) (strOf ty) (.slice Ap ps.length cp) (.slice Ab bd.length cb) := by rw [hX, hg]; exact DcBlk.new _ _ _ _ _ _ _ _
  have hw : Went w Bc Ba B u X u T := by rw [hX]; exact (Went.refl hp).alloc _
  have hg1 : Bc < g := by rw [hg]; exact lt_of_heap hp.cnt
  have hg2 : Ba < g := by rw [hg]; exact lt_of_heap hp.buf
  have hwg : w.heap.size ≤ g := by rw [hg]; exact Nat.le_refl _
  have hsz : (strOf nm).size ≤ 40000 := by rw [Lib.size_eq, strOf_data]; exact hnl
  have HX := Lib.hid hX
  have HG := Lib.hid hg
  have HD := Lib.hid hd
  have HW := Lib.hid hw
  have HPS := Lib.hid hps
  have HSM := Lib.hid hsm
  clear hX hg hd hw hps hsm
  have HEQ := Lib.hid (congrArg (adv T) (penD_3 p n nm ty ps bd hq))
  have HTN := Lib.hid (takeName_yes ⟨g, 3, none⟩ (strOf nm) X HD.out.c3 (HD.out.frz 3) hsz hq)
  unfold penV
  go_enter Tryd.func63, Tryd.ntmps63
  go_wp2_with fail
  rw [← HX.out, ← HG.out]
  refine HTN.out.mono ?_
  rintro e1 w1 ⟨rfl, wm, hbl, hw1⟩
  have HW1 : Hid (Went w Bc Ba B u w1 u T) := Lib.hid (by rw [hw1]; exact (HW.out.below hbl).setCell _ _ hwg ((HD.out).apart (HW.out).1 hg1 hg2))
  have HD1 := Lib.hid (show DcBlk w1 g 3 p n (strOf []) (strOf ty) (.slice Ap ps.length cp) (.slice Ab bd.length cb) from by rw [hw1]; exact (HD.out.below hbl HD.out.lt).s3 _)
  clear hbl hw1
  have a2 := (HD1.out).c0
  go_wp2_with fail
  refine (put_new (Went.refl (HW1.out).1) (Nat.le_trans hB (HW1.out).2.2.size) [[115, 116, 114, 117, 99, 116], nm] (by intro t ht; simp at ht; have := hnl; have := htl; first | (rcases ht with rfl | rfl | rfl | rfl <;> first | decide | assumption | simp) | (rcases ht with rfl | rfl | rfl <;> first | decide | assumption | simp) | (rcases ht with rfl | rfl <;> first | decide | assumption | simp) | (rw [ht]; first | decide | assumption) | (rw [ht]; simp)) (by simp)).mono ?_
  rintro e3 w3 hpost
  cases hR : adv T (some [[115, 116, 114, 117, 99, 116], nm]) with
  | none =>
    rw [hR] at hpost
    obtain ⟨rfl, hch⟩ := hpost
    have HNO := Lib.hid ((HEQ.out).trans (adv_cat_none hR _))
    have HCH := Lib.hid ((HW1.out).fell hch)
    clear hR hch
    unfold boom
    go_wp2
    refine ⟨rfl, ?_⟩
    rw [HNO.out]
    exact ⟨rfl, HCH.out⟩
  | some T3 =>
    rw [hR] at hpost
    obtain ⟨rfl, u3, hwent⟩ := hpost
    have HW3 := Lib.hid ((HW1.out).trans hwent)
    have HD3 := Lib.hid ((HD1.out).went (HW1.out).1 hg1 hg2 hwent)
    have HEQ3 := Lib.hid ((HEQ.out).trans (adv_cat_some hR _))
    clear hwent hR
    go_wp2_with fail
    refine (take_pairs ⟨g, 5, none⟩ Ap ps.length cp _ (HD3.out).c5 ((HD3.out).frz 5)).mono ?_
    rintro e4 w4 ⟨rfl, hw4⟩
    have HW4 : Hid (Went w Bc Ba B u w4 _ T3) := Lib.hid (by rw [hw4]; exact (HW3.out).setCell _ _ hwg ((HD3.out).apart (HW3.out).1 hg1 hg2))
    have HD4 := Lib.hid (show DcBlk w4 g 3 p n (strOf []) (strOf ty) (.slice none 0 0) (.slice Ab bd.length cb) from by rw [hw4]; exact (HD3.out).s5 _)
    clear hw4
    go_wp2_with fail
    have HCP := Lib.hid (fields_q (hb.trans ((HW4.out).2.2.below hB (fun x hx => (hp.mine hx).1))) (Nat.le_trans hB (HW4.out).2.2.size) (HW4.out).1 ps HPS.out HSM.out)
    unfold penV at HCP
    refine (HCP.out).mono ?_
    rintro e5 w5 hpost
    cases hR : adv T3 (fieldsQ ps) with
    | none =>
      rw [hR] at hpost
      obtain ⟨rfl, hch⟩ := hpost
      have HNO := Lib.hid ((HEQ3.out).trans (adv_cat_none hR _))
      have HCH := Lib.hid ((HW4.out).fell hch)
      clear hR hch
      unfold boom
      go_wp2
      refine ⟨rfl, ?_⟩
      rw [HNO.out]
      exact ⟨rfl, HCH.out⟩
    | some T5 =>
      rw [hR] at hpost
      obtain ⟨rfl, u5, hwent⟩ := hpost
      have HW5 := Lib.hid ((HW4.out).trans hwent)
      have HD5 := Lib.hid ((HD4.out).went (HW4.out).1 hg1 hg2 hwent)
      have HEQ5 := Lib.hid ((HEQ3.out).trans (adv_cat_some hR _))
      clear hwent hR
      have c2 := (HD5.out).c2
      have c4 := (HD5.out).c4
      have c5 := (HD5.out).c5
      have c6 := (HD5.out).c6
      have hz0 : (strOf []).toList = [] := strOf_toList []
      obtain ⟨nb, hnb⟩ : ∃ m, m = bd.length := ⟨_, rfl⟩
      rw [← hnb] at c6
      by_cases hn : n = 0
      case neg =>
        have HNO := Lib.hid ((HEQ5.out).trans (show adv T5 (need _ (some [])) = none from by rw [need_no (fun h => hn h.1)]; rfl))
        have hs1 : (n == 0) = false := by rw [beq_eq_false_iff_ne]; exact hn
        clear hnb hn
        go_wp2_with fail
        refine (must_no _).mono ?_
        rintro e9 w9 ⟨rfl, rfl⟩
        unfold boom
        go_wp2
        refine ⟨rfl, ?_⟩
        rw [HNO.out]
        exact ⟨rfl, (HW5.out).2.2⟩
      by_cases ht : ty = []
      case neg =>
        have HNO := Lib.hid ((HEQ5.out).trans (show adv T5 (need _ (some [])) = none from by rw [need_no (fun h => ht h.2.1)]; rfl))
        subst hn
        have hs1 : ¬ (strOf ty).toList = [] := by rw [strOf_toList]; exact ht
        clear hnb ht
        go_wp2_with fail
        refine (must_no _).mono ?_
        rintro e9 w9 ⟨rfl, rfl⟩
        unfold boom
        go_wp2
        refine ⟨rfl, ?_⟩
        rw [HNO.out]
        exact ⟨rfl, (HW5.out).2.2⟩
      by_cases hbl0 : bd.length = 0
      case neg =>
        have HNO := Lib.hid ((HEQ5.out).trans (show adv T5 (need _ (some [])) = none from by rw [need_no (fun h => hbl0 h.2.2)]; rfl))
        subst hn
        subst ht
        have hl1 : (nb == 0) = false := by rw [beq_eq_false_iff_ne]; omega
        have hl2 : ((nb : Int) == 0) = false := by rw [beq_eq_false_iff_ne]; omega
        clear hnb hbl0
        go_wp2_with fail
        refine (must_no _).mono ?_
        rintro e9 w9 ⟨rfl, rfl⟩
        unfold boom
        go_wp2
        refine ⟨rfl, ?_⟩
        rw [HNO.out]
        exact ⟨rfl, (HW5.out).2.2⟩
      have HFIN := Lib.hid ((HEQ5.out).trans (show adv T5 (need _ (some [])) = some T5 from by rw [need_yes ⟨hn, ht, hbl0⟩]; exact adv_nil (HW5.out).1.fit))
      subst hn
      subst ht
      obtain rfl : nb = 0 := by omega
      clear hnb hbl0
      go_wp2_with fail
      refine (must_yes _).mono ?_
      rintro e9 w9 ⟨rfl, rfl⟩
      go_wp2
      go_end0
      rw [HFIN.out]
      exact ⟨rfl, _, HW5.out⟩

set_option maxRecDepth 100000 in
set_option maxHeartbeats 4000000 in
theorem decl_7_a {w0 w : World} {Bc Ba B : Nat} {u : Value} {T : List (List UInt8)} {p n : Int} {nm ty : List UInt8} {ps : List Pr} {bd : List Sm} {vp vb : Value} (htab : Tab B w0) (hb : Below B w0 w) (hB : B ≤ w.heap.size) (hp : PenAt w Bc Ba B u T) (hnl : nm.length ≤ 40000) (htl : ty.length ≤ 40000)
    (hps : PrsIn w0 (· < B) ps vp) (hsm : ∀ p ∈ ps, p.name.length ≤ 40000 ∧ p.type.length ≤ 40000) (hbd : WritesB w0 B bd vb) (hbs : ∃ A c, vb = .slice A bd.length c) (hq : nameB nm = true) (hty : ¬ ty = []) :
    Calls Tryd.prog 63 #[penV Bc Ba, .agg #[.int .i64 7, .int .i64 p, .int .i64 n, .string (strOf nm), .string (strOf ty), vp, vb]] w (PenPost w Bc Ba B u (adv T (penD ⟨7, p, n, nm, ty, ps, bd⟩))) := by
  obtain ⟨Ap, cp, hvp, _, _, _⟩ := id hps
  subst hvp
  obtain ⟨Ab, cb, hvb⟩ := hbs
  subst hvb
  obtain ⟨X, hX⟩ : ∃ X : World, X = w.alloc (.cells #[.int .i64 7, .int .i64 p, .int .i64 n, .string (strOf nm), .string (strOf ty), .slice Ap ps.length cp, .slice Ab bd.length cb] 53) := ⟨_, rfl⟩
  obtain ⟨g, hg⟩ : ∃ g, g = w.heap.size := ⟨_, rfl⟩
  have hd : DcBlk X g 7 p n (strOf nm) (strOf ty) (.slice Ap ps.length cp) (.slice Ab bd.length cb) := by rw [hX, hg]; exact DcBlk.new _ _ _ _ _ _ _ _
  have hw : Went w Bc Ba B u X u T := by rw [hX]; exact (Went.refl hp).alloc _
  have hg1 : Bc < g := by rw [hg]; exact lt_of_heap hp.cnt
  have hg2 : Ba < g := by rw [hg]; exact lt_of_heap hp.buf
  have hwg : w.heap.size ≤ g := by rw [hg]; exact Nat.le_refl _
  have hsz : (strOf nm).size ≤ 40000 := by rw [Lib.size_eq, strOf_data]; exact hnl
  have HX := Lib.hid hX
  have HG := Lib.hid hg
  have HD := Lib.hid hd
  have HW := Lib.hid hw
  have HPS := Lib.hid hps
  have HSM := Lib.hid hsm
  clear hX hg hd hw hps hsm
  have HEQ := Lib.hid (congrArg (adv T) ((penD_7 p n nm ty ps bd hq).trans (by rw [if_neg hty])))
  have HTY := Lib.hid hty
  clear hty
  have HTN := Lib.hid (takeName_yes ⟨g, 3, none⟩ (strOf nm) X HD.out.c3 (HD.out.frz 3) hsz hq)
  unfold penV
  go_enter Tryd.func63, Tryd.ntmps63
  go_wp2_with fail
  rw [← HX.out, ← HG.out]
  refine HTN.out.mono ?_
  rintro e1 w1 ⟨rfl, wm, hbl, hw1⟩
  have HW1 : Hid (Went w Bc Ba B u w1 u T) := Lib.hid (by rw [hw1]; exact (HW.out.below hbl).setCell _ _ hwg ((HD.out).apart (HW.out).1 hg1 hg2))
  have HD1 := Lib.hid (show DcBlk w1 g 7 p n (strOf []) (strOf ty) (.slice Ap ps.length cp) (.slice Ab bd.length cb) from by rw [hw1]; exact (HD.out.below hbl HD.out.lt).s3 _)
  clear hbl hw1
  have a2 := (HD1.out).c0
  go_wp2_with fail
  refine (put_new (Went.refl (HW1.out).1) (Nat.le_trans hB (HW1.out).2.2.size) [[102, 117, 110, 99], nm] (by intro t ht; simp at ht; have := hnl; have := htl; first | (rcases ht with rfl | rfl | rfl | rfl <;> first | decide | assumption | simp) | (rcases ht with rfl | rfl | rfl <;> first | decide | assumption | simp) | (rcases ht with rfl | rfl <;> first | decide | assumption | simp) | (rw [ht]; first | decide | assumption) | (rw [ht]; simp)) (by simp)).mono ?_
  rintro e3 w3 hpost
  cases hR : adv T (some [[102, 117, 110, 99], nm]) with
  | none =>
    rw [hR] at hpost
    obtain ⟨rfl, hch⟩ := hpost
    have HNO := Lib.hid ((HEQ.out).trans (adv_cat_none hR _))
    have HCH := Lib.hid ((HW1.out).fell hch)
    clear hR hch
    unfold boom
    go_wp2
    refine ⟨rfl, ?_⟩
    rw [HNO.out]
    exact ⟨rfl, HCH.out⟩
  | some T3 =>
    rw [hR] at hpost
    obtain ⟨rfl, u3, hwent⟩ := hpost
    have HW3 := Lib.hid ((HW1.out).trans hwent)
    have HD3 := Lib.hid ((HD1.out).went (HW1.out).1 hg1 hg2 hwent)
    have HEQ3 := Lib.hid ((HEQ.out).trans (adv_cat_some hR _))
    clear hwent hR
    go_wp2_with fail
    refine (take_pairs ⟨g, 5, none⟩ Ap ps.length cp _ (HD3.out).c5 ((HD3.out).frz 5)).mono ?_
    rintro e4 w4 ⟨rfl, hw4⟩
    have HW4 : Hid (Went w Bc Ba B u w4 _ T3) := Lib.hid (by rw [hw4]; exact (HW3.out).setCell _ _ hwg ((HD3.out).apart (HW3.out).1 hg1 hg2))
    have HD4 := Lib.hid (show DcBlk w4 g 7 p n (strOf []) (strOf ty) (.slice none 0 0) (.slice Ab bd.length cb) from by rw [hw4]; exact (HD3.out).s5 _)
    clear hw4
    go_wp2_with fail
    have HCP := Lib.hid (params_q (hb.trans ((HW4.out).2.2.below hB (fun x hx => (hp.mine hx).1))) (Nat.le_trans hB (HW4.out).2.2.size) (HW4.out).1 ps HPS.out HSM.out)
    unfold penV at HCP
    refine (HCP.out).mono ?_
    rintro e5 w5 hpost
    cases hR : adv T3 (paramsQ ps) with
    | none =>
      rw [hR] at hpost
      obtain ⟨rfl, hch⟩ := hpost
      have HNO := Lib.hid ((HEQ3.out).trans (adv_cat_none hR _))
      have HCH := Lib.hid ((HW4.out).fell hch)
      clear hR hch
      unfold boom
      go_wp2
      refine ⟨rfl, ?_⟩
      rw [HNO.out]
      exact ⟨rfl, HCH.out⟩
    | some T5 =>
      rw [hR] at hpost
      obtain ⟨rfl, u5, hwent⟩ := hpost
      have HW5 := Lib.hid ((HW4.out).trans hwent)
      have HD5 := Lib.hid ((HD4.out).went (HW4.out).1 hg1 hg2 hwent)
      have HEQ5 := Lib.hid ((HEQ3.out).trans (adv_cat_some hR _))
      clear hwent hR
      have hty := HTY.out
      have hs1 : ¬ (strOf ty).toList = [] := by rw [strOf_toList]; exact hty
      have hs2 : (!(strOf ty).toList.isEmpty) = true := by rw [strOf_toList]; cases ty with
        | nil => exact absurd rfl hty
        | cons a r => rfl
      have a6 := (HD5.out).c4
      go_wp2_with fail
      refine (take_string ⟨g, 4, none⟩ (strOf ty) _ (HD5.out).c4 ((HD5.out).frz 4)).mono ?_
      rintro e7 w7 ⟨rfl, hw7⟩
      have HW7 : Hid (Went w Bc Ba B u w7 _ T5) := Lib.hid (by rw [hw7]; exact (HW5.out).setCell _ _ hwg ((HD5.out).apart (HW5.out).1 hg1 hg2))
      have HD7 := Lib.hid (show DcBlk w7 g 7 p n (strOf []) (strOf []) (.slice none 0 0) (.slice Ab bd.length cb) from by rw [hw7]; exact (HD5.out).s4 _)
      clear hw7
      go_wp2_with fail
      refine (types_any (HW7.out).1 (Nat.le_trans hB (HW7.out).2.2.size) ty htl).mono ?_
      rintro e8 w8 hpost
      cases hR : adv T5 (tyT ty) with
      | none =>
        rw [hR] at hpost
        obtain ⟨rfl, hch⟩ := hpost
        have HNO := Lib.hid ((HEQ5.out).trans (adv_cat_none hR _))
        have HCH := Lib.hid ((HW7.out).fell hch)
        clear hR hch
        unfold boom
        go_wp2
        refine ⟨rfl, ?_⟩
        rw [HNO.out]
        exact ⟨rfl, HCH.out⟩
      | some T8 =>
        rw [hR] at hpost
        obtain ⟨rfl, u8, hwent⟩ := hpost
        have HW8 := Lib.hid ((HW7.out).trans hwent)
        have HD8 := Lib.hid ((HD7.out).went (HW7.out).1 hg1 hg2 hwent)
        have HEQ8 := Lib.hid ((HEQ5.out).trans (adv_cat_some hR _))
        clear hwent hR
        go_wp2_with fail
        refine (take_stmts ⟨g, 6, none⟩ Ab bd.length cb _ (HD8.out).c6 ((HD8.out).frz 6)).mono ?_
        rintro e9 w9 ⟨rfl, hw9⟩
        have HW9 : Hid (Went w Bc Ba B u w9 _ T8) := Lib.hid (by rw [hw9]; exact (HW8.out).setCell _ _ hwg ((HD8.out).apart (HW8.out).1 hg1 hg2))
        have HD9 := Lib.hid (show DcBlk w9 g 7 p n (strOf []) (strOf []) (.slice none 0 0) (.slice none 0 0) from by rw [hw9]; exact (HD8.out).s6 _)
        clear hw9
        go_wp2_with fail
        have HCB := Lib.hid (hbd w9 Bc Ba _ _ 1 (hb.trans ((HW9.out).2.2.below hB (fun x hx => (hp.mine hx).1))) (Nat.le_trans hB (HW9.out).2.2.size) (HW9.out).1 (by omega) (by omega))
        unfold penV at HCB
        refine (HCB.out).mono ?_
        rintro e10 w10 hpost
        cases hR : adv T8 (penB bd 1) with
        | none =>
          rw [hR] at hpost
          obtain ⟨rfl, hch⟩ := hpost
          have HNO := Lib.hid ((HEQ8.out).trans (adv_cat_none hR _))
          have HCH := Lib.hid ((HW9.out).fell hch)
          clear hR hch
          unfold boom
          go_wp2
          refine ⟨rfl, ?_⟩
          rw [HNO.out]
          exact ⟨rfl, HCH.out⟩
        | some T10 =>
          rw [hR] at hpost
          obtain ⟨rfl, u10, hwent⟩ := hpost
          have HW10 := Lib.hid ((HW9.out).trans hwent)
          have HD10 := Lib.hid ((HD9.out).went (HW9.out).1 hg1 hg2 hwent)
          have HEQ10 := Lib.hid ((HEQ8.out).trans (adv_cat_some hR _))
          clear hwent hR
          have c2 := (HD10.out).c2
          have c4 := (HD10.out).c4
          have c5 := (HD10.out).c5
          have c6 := (HD10.out).c6
          have hz0 : (strOf []).toList = [] := strOf_toList []
          by_cases hn : n = 0
          case neg =>
            have HNO := Lib.hid ((HEQ10.out).trans (show adv T10 (need _ (some [])) = none from by rw [need_no (fun h => hn h)]; rfl))
            have hs1 : (n == 0) = false := by rw [beq_eq_false_iff_ne]; exact hn
            clear hn
            go_wp2_with fail
            refine (must_no _).mono ?_
            rintro e9 w9 ⟨rfl, rfl⟩
            unfold boom
            go_wp2
            refine ⟨rfl, ?_⟩
            rw [HNO.out]
            exact ⟨rfl, (HW10.out).2.2⟩
          have HFIN := Lib.hid ((HEQ10.out).trans (show adv T10 (need _ (some [])) = some T10 from by rw [need_yes hn]; exact adv_nil (HW10.out).1.fit))
          subst hn
          go_wp2_with fail
          refine (must_yes _).mono ?_
          rintro e9 w9 ⟨rfl, rfl⟩
          go_wp2
          go_end0
          rw [HFIN.out]
          exact ⟨rfl, _, HW10.out⟩

set_option maxRecDepth 100000 in
set_option maxHeartbeats 4000000 in
theorem decl_7_b {w0 w : World} {Bc Ba B : Nat} {u : Value} {T : List (List UInt8)} {p n : Int} {nm ty : List UInt8} {ps : List Pr} {bd : List Sm} {vp vb : Value} (htab : Tab B w0) (hb : Below B w0 w) (hB : B ≤ w.heap.size) (hp : PenAt w Bc Ba B u T) (hnl : nm.length ≤ 40000) (htl : ty.length ≤ 40000)
    (hps : PrsIn w0 (· < B) ps vp) (hsm : ∀ p ∈ ps, p.name.length ≤ 40000 ∧ p.type.length ≤ 40000) (hbd : WritesB w0 B bd vb) (hbs : ∃ A c, vb = .slice A bd.length c) (hq : nameB nm = true) (hty : ty = []) :
    Calls Tryd.prog 63 #[penV Bc Ba, .agg #[.int .i64 7, .int .i64 p, .int .i64 n, .string (strOf nm), .string (strOf ty), vp, vb]] w (PenPost w Bc Ba B u (adv T (penD ⟨7, p, n, nm, ty, ps, bd⟩))) := by
  obtain ⟨Ap, cp, hvp, _, _, _⟩ := id hps
  subst hvp
  obtain ⟨Ab, cb, hvb⟩ := hbs
  subst hvb
  obtain ⟨X, hX⟩ : ∃ X : World, X = w.alloc (.cells #[.int .i64 7, .int .i64 p, .int .i64 n, .string (strOf nm), .string (strOf ty), .slice Ap ps.length cp, .slice Ab bd.length cb] 53) := ⟨_, rfl⟩
  obtain ⟨g, hg⟩ : ∃ g, g = w.heap.size := ⟨_, rfl⟩
  have hd : DcBlk X g 7 p n (strOf nm) (strOf ty) (.slice Ap ps.length cp) (.slice Ab bd.length cb) := by rw [hX, hg]; exact DcBlk.new _ _ _ _ _ _ _ _
  have hw : Went w Bc Ba B u X u T := by rw [hX]; exact (Went.refl hp).alloc _
  have hg1 : Bc < g := by rw [hg]; exact lt_of_heap hp.cnt
  have hg2 : Ba < g := by rw [hg]; exact lt_of_heap hp.buf
  have hwg : w.heap.size ≤ g := by rw [hg]; exact Nat.le_refl _
  have hsz : (strOf nm).size ≤ 40000 := by rw [Lib.size_eq, strOf_data]; exact hnl
  have HX := Lib.hid hX
  have HG := Lib.hid hg
  have HD := Lib.hid hd
  have HW := Lib.hid hw
  have HPS := Lib.hid hps
  have HSM := Lib.hid hsm
  clear hX hg hd hw hps hsm
  have HEQ := Lib.hid (congrArg (adv T) ((penD_7 p n nm ty ps bd hq).trans (by rw [if_pos hty, cat_nil_l])))
  have HTY := Lib.hid hty
  clear hty
  have HTN := Lib.hid (takeName_yes ⟨g, 3, none⟩ (strOf nm) X HD.out.c3 (HD.out.frz 3) hsz hq)
  unfold penV
  go_enter Tryd.func63, Tryd.ntmps63
  go_wp2_with fail
  rw [← HX.out, ← HG.out]
  refine HTN.out.mono ?_
  rintro e1 w1 ⟨rfl, wm, hbl, hw1⟩
  have HW1 : Hid (Went w Bc Ba B u w1 u T) := Lib.hid (by rw [hw1]; exact (HW.out.below hbl).setCell _ _ hwg ((HD.out).apart (HW.out).1 hg1 hg2))
  have HD1 := Lib.hid (show DcBlk w1 g 7 p n (strOf []) (strOf ty) (.slice Ap ps.length cp) (.slice Ab bd.length cb) from by rw [hw1]; exact (HD.out.below hbl HD.out.lt).s3 _)
  clear hbl hw1
  have a2 := (HD1.out).c0
  go_wp2_with fail
  refine (put_new (Went.refl (HW1.out).1) (Nat.le_trans hB (HW1.out).2.2.size) [[102, 117, 110, 99], nm] (by intro t ht; simp at ht; have := hnl; have := htl; first | (rcases ht with rfl | rfl | rfl | rfl <;> first | decide | assumption | simp) | (rcases ht with rfl | rfl | rfl <;> first | decide | assumption | simp) | (rcases ht with rfl | rfl <;> first | decide | assumption | simp) | (rw [ht]; first | decide | assumption) | (rw [ht]; simp)) (by simp)).mono ?_
  rintro e3 w3 hpost
  cases hR : adv T (some [[102, 117, 110, 99], nm]) with
  | none =>
    rw [hR] at hpost
    obtain ⟨rfl, hch⟩ := hpost
    have HNO := Lib.hid ((HEQ.out).trans (adv_cat_none hR _))
    have HCH := Lib.hid ((HW1.out).fell hch)
    clear hR hch
    unfold boom
    go_wp2
    refine ⟨rfl, ?_⟩
    rw [HNO.out]
    exact ⟨rfl, HCH.out⟩
  | some T3 =>
    rw [hR] at hpost
    obtain ⟨rfl, u3, hwent⟩ := hpost
    have HW3 := Lib.hid ((HW1.out).trans hwent)
    have HD3 := Lib.hid ((HD1.out).went (HW1.out).1 hg1 hg2 hwent)
    have HEQ3 := Lib.hid ((HEQ.out).trans (adv_cat_some hR _))
    clear hwent hR
    go_wp2_with fail
    refine (take_pairs ⟨g, 5, none⟩ Ap ps.length cp _ (HD3.out).c5 ((HD3.out).frz 5)).mono ?_
    rintro e4 w4 ⟨rfl, hw4⟩
    have HW4 : Hid (Went w Bc Ba B u w4 _ T3) := Lib.hid (by rw [hw4]; exact (HW3.out).setCell _ _ hwg ((HD3.out).apart (HW3.out).1 hg1 hg2))
    have HD4 := Lib.hid (show DcBlk w4 g 7 p n (strOf []) (strOf ty) (.slice none 0 0) (.slice Ab bd.length cb) from by rw [hw4]; exact (HD3.out).s5 _)
    clear hw4
    go_wp2_with fail
    have HCP := Lib.hid (params_q (hb.trans ((HW4.out).2.2.below hB (fun x hx => (hp.mine hx).1))) (Nat.le_trans hB (HW4.out).2.2.size) (HW4.out).1 ps HPS.out HSM.out)
    unfold penV at HCP
    refine (HCP.out).mono ?_
    rintro e5 w5 hpost
    cases hR : adv T3 (paramsQ ps) with
    | none =>
      rw [hR] at hpost
      obtain ⟨rfl, hch⟩ := hpost
      have HNO := Lib.hid ((HEQ3.out).trans (adv_cat_none hR _))
      have HCH := Lib.hid ((HW4.out).fell hch)
      clear hR hch
      unfold boom
      go_wp2
      refine ⟨rfl, ?_⟩
      rw [HNO.out]
      exact ⟨rfl, HCH.out⟩
    | some T5 =>
      rw [hR] at hpost
      obtain ⟨rfl, u5, hwent⟩ := hpost
      have HW5 := Lib.hid ((HW4.out).trans hwent)
      have HD5 := Lib.hid ((HD4.out).went (HW4.out).1 hg1 hg2 hwent)
      have HEQ5 := Lib.hid ((HEQ3.out).trans (adv_cat_some hR _))
      clear hwent hR
      have hty := HTY.out
      subst hty
      have hz0 : (strOf []).toList = [] := strOf_toList []
      have a6 := (HD5.out).c4
      go_wp2_with fail
      refine (take_stmts ⟨g, 6, none⟩ Ab bd.length cb _ (HD5.out).c6 ((HD5.out).frz 6)).mono ?_
      rintro e7 w7 ⟨rfl, hw7⟩
      have HW7 : Hid (Went w Bc Ba B u w7 _ T5) := Lib.hid (by rw [hw7]; exact (HW5.out).setCell _ _ hwg ((HD5.out).apart (HW5.out).1 hg1 hg2))
      have HD7 := Lib.hid (show DcBlk w7 g 7 p n (strOf []) (strOf []) (.slice none 0 0) (.slice none 0 0) from by rw [hw7]; exact (HD5.out).s6 _)
      clear hw7
      go_wp2_with fail
      have HCB := Lib.hid (hbd w7 Bc Ba _ _ 1 (hb.trans ((HW7.out).2.2.below hB (fun x hx => (hp.mine hx).1))) (Nat.le_trans hB (HW7.out).2.2.size) (HW7.out).1 (by omega) (by omega))
      unfold penV at HCB
      refine (HCB.out).mono ?_
      rintro e8 w8 hpost
      cases hR : adv T5 (penB bd 1) with
      | none =>
        rw [hR] at hpost
        obtain ⟨rfl, hch⟩ := hpost
        have HNO := Lib.hid ((HEQ5.out).trans (adv_cat_none hR _))
        have HCH := Lib.hid ((HW7.out).fell hch)
        clear hR hch
        unfold boom
        go_wp2
        refine ⟨rfl, ?_⟩
        rw [HNO.out]
        exact ⟨rfl, HCH.out⟩
      | some T8 =>
        rw [hR] at hpost
        obtain ⟨rfl, u8, hwent⟩ := hpost
        have HW8 := Lib.hid ((HW7.out).trans hwent)
        have HD8 := Lib.hid ((HD7.out).went (HW7.out).1 hg1 hg2 hwent)
        have HEQ8 := Lib.hid ((HEQ5.out).trans (adv_cat_some hR _))
        clear hwent hR
        have c2 := (HD8.out).c2
        have c4 := (HD8.out).c4
        have c5 := (HD8.out).c5
        have c6 := (HD8.out).c6
        have hz0 : (strOf []).toList = [] := strOf_toList []
        by_cases hn : n = 0
        case neg =>
          have HNO := Lib.hid ((HEQ8.out).trans (show adv T8 (need _ (some [])) = none from by rw [need_no (fun h => hn h)]; rfl))
          have hs1 : (n == 0) = false := by rw [beq_eq_false_iff_ne]; exact hn
          clear hn
          go_wp2_with fail
          refine (must_no _).mono ?_
          rintro e9 w9 ⟨rfl, rfl⟩
          unfold boom
          go_wp2
          refine ⟨rfl, ?_⟩
          rw [HNO.out]
          exact ⟨rfl, (HW8.out).2.2⟩
        have HFIN := Lib.hid ((HEQ8.out).trans (show adv T8 (need _ (some [])) = some T8 from by rw [need_yes hn]; exact adv_nil (HW8.out).1.fit))
        subst hn
        go_wp2_with fail
        refine (must_yes _).mono ?_
        rintro e9 w9 ⟨rfl, rfl⟩
        go_wp2
        go_end0
        rw [HFIN.out]
        exact ⟨rfl, _, HW8.out⟩

end Go.Proofs.YtmbkjabjcphkbaaDoor
end
section
/- The walks of a declaration, kind by kind. -/
set_option linter.unusedVariables false
namespace Go.Proofs.YtmbkjabjcphkbaaDoor
open Go.RowKit

set_option maxRecDepth 100000 in
set_option maxHeartbeats 4000000 in
theorem decl_2_yes {w0 w : World} {Bc Ba B : Nat} {u : Value} {T : List (List UInt8)} {p n : Int} {nm ty : List UInt8} {ps : List Pr} {bd : List Sm} {vp vb : Value} (htab : Tab B w0) (hb : Below B w0 w) (hB : B ≤ w.heap.size) (hp : PenAt w Bc Ba B u T) (hnl : nm.length ≤ 40000) (htl : ty.length ≤ 40000)
    (hps : PrsIn w0 (· < B) ps vp) (hsm : ∀ p ∈ ps, p.name.length ≤ 40000 ∧ p.type.length ≤ 40000) (hbd : WritesB w0 B bd vb) (hbs : ∃ A c, vb = .slice A bd.length c) (hq : nameB nm = true) (hn4 : 1 ≤ n ∧ n ≤ 4) :
    Calls Tryd.prog 63 #[penV Bc Ba, .agg #[.int .i64 2, .int .i64 p, .int .i64 n, .string (strOf nm), .string (strOf ty), vp, vb]] w (PenPost w Bc Ba B u (adv T (penD ⟨2, p, n, nm, ty, ps, bd⟩))) := by
  obtain ⟨Ap, cp, hvp, _, _, _⟩ := id hps
  subst hvp
  obtain ⟨Ab, cb, hvb⟩ := hbs
  subst hvb
  obtain ⟨X, hX⟩ : ∃ X : World, X = w.alloc (.cells #[.int .i64 2, .int .i64 p, .int .i64 n, .string (strOf nm), .string (strOf ty), .slice Ap ps.length cp, .slice Ab bd.length cb] 53) := ⟨_, rfl⟩
  obtain ⟨g, hg⟩ : ∃ g, g = w.heap.size := ⟨_, rfl⟩
  have hd : DcBlk X g 2 p n (strOf nm) (strOf ty) (.slice Ap ps.length cp) (.slice Ab bd.length cb) := by rw [hX, hg]; exact DcBlk.new _ _ _ _ _ _ _ _
  have hw : Went w Bc Ba B u X u T := by rw [hX]; exact (Went.refl hp).alloc _
  have hg1 : Bc < g := by rw [hg]; exact lt_of_heap hp.cnt
  have hg2 : Ba < g := by rw [hg]; exact lt_of_heap hp.buf
  have hwg : w.heap.size ≤ g := by rw [hg]; exact Nat.le_refl _
  have hsz : (strOf nm).size ≤ 40000 := by rw [Lib.size_eq, strOf_data]; exact hnl
  have HX := Lib.hid hX
  have HG := Lib.hid hg
  have HD := Lib.hid hd
  have HW := Lib.hid hw
  have HPS := Lib.hid hps
  have HSM := Lib.hid hsm
  clear hX hg hd hw hps hsm
  have HEQ := Lib.hid (congrArg (adv T) ((penD_2 p n nm ty ps bd hq).trans (by rw [need_cat_yes hn4])))
  have HTN := Lib.hid (takeName_yes ⟨g, 3, none⟩ (strOf nm) X HD.out.c3 (HD.out.frz 3) hsz hq)
  unfold penV
  go_enter Tryd.func63, Tryd.ntmps63
  go_wp2_with fail
  rw [← HX.out, ← HG.out]
  refine HTN.out.mono ?_
  rintro e1 w1 ⟨rfl, wm, hbl, hw1⟩
  have HW1 : Hid (Went w Bc Ba B u w1 u T) := Lib.hid (by rw [hw1]; exact (HW.out.below hbl).setCell _ _ hwg ((HD.out).apart (HW.out).1 hg1 hg2))
  have HD1 := Lib.hid (show DcBlk w1 g 2 p n (strOf []) (strOf ty) (.slice Ap ps.length cp) (.slice Ab bd.length cb) from by rw [hw1]; exact (HD.out.below hbl HD.out.lt).s3 _)
  clear hbl hw1
  have a2 := (HD1.out).c0
  go_wp2_with fail
  have hbt := (hb.trans ((HW1.out).2.2.below hB (fun x hx => (hp.mine hx).1)))
  refine (takeNum_yes ⟨g, 2, none⟩ n 1 4 _ (HD1.out).c2 ((HD1.out).frz 2) hn4.1 hn4.2 (by omega) (by omega) (fun x => htab _ (hbt.setCell (by show B ≤ g; omega) _))).mono ?_
  rintro e3 w3 ⟨rfl, hbl⟩
  have HW3 : Hid (Went w Bc Ba B u w3 u T) := Lib.hid (((HW1.out).setCell ⟨g, 2, none⟩ (.int .i64 0) hwg ((HD1.out).apart (HW1.out).1 hg1 hg2)).below (by have := hbl; simpa [World.setCell] using this))
  have HD3 := Lib.hid (show DcBlk w3 g 2 p 0 (strOf []) (strOf ty) (.slice Ap ps.length cp) (.slice Ab bd.length cb) from ((HD1.out).s2 0).below hbl (by have := (HD1.out).lt; simpa [World.setCell] using this))
  clear hbl hbt
  go_wp2_with fail
  refine (put_new (Went.refl (HW3.out).1) (Nat.le_trans hB (HW3.out).2.2.size) [[99, 104, 97, 110], nm, Lib.itoa n, [59]] (by intro t ht; simp at ht; have := hnl; have := Lib.itoa_length_le n (by omega) (by omega); rcases ht with rfl | rfl | rfl | rfl <;> first | decide | assumption | omega | simp) (by simp)).mono ?_
  rintro e4 w4 hpost
  cases hR : adv T (some [[99, 104, 97, 110], nm, Lib.itoa n, [59]]) with
  | none =>
    rw [hR] at hpost
    obtain ⟨rfl, hch⟩ := hpost
    have HNO := Lib.hid ((HEQ.out).trans (adv_cat_none hR _))
    have HCH := Lib.hid ((HW3.out).fell hch)
    clear hR hch
    unfold boom
    go_wp2
    refine ⟨rfl, ?_⟩
    rw [HNO.out]
    exact ⟨rfl, HCH.out⟩
  | some T4 =>
    rw [hR] at hpost
    obtain ⟨rfl, u4, hwent⟩ := hpost
    have HW4 := Lib.hid ((HW3.out).trans hwent)
    have HD4 := Lib.hid ((HD3.out).went (HW3.out).1 hg1 hg2 hwent)
    have HEQ4 := Lib.hid ((HEQ.out).trans (adv_cat_some hR _))
    clear hwent hR
    have c2 := (HD4.out).c2
    have c4 := (HD4.out).c4
    have c5 := (HD4.out).c5
    have c6 := (HD4.out).c6
    have hz0 : (strOf []).toList = [] := strOf_toList []
    obtain ⟨nx, hnx⟩ : ∃ m, m = ps.length := ⟨_, rfl⟩
    rw [← hnx] at c5
    obtain ⟨nb, hnb⟩ : ∃ m, m = bd.length := ⟨_, rfl⟩
    rw [← hnb] at c6
    by_cases ht : ty = []
    case neg =>
      have HNO := Lib.hid ((HEQ4.out).trans (show adv T4 (need _ (some [])) = none from by rw [need_no (fun h => ht h.1)]; rfl))
      have hs1 : ¬ (strOf ty).toList = [] := by rw [strOf_toList]; exact ht
      clear hnx hnb ht
      go_wp2_with fail
      refine (must_no _).mono ?_
      rintro e9 w9 ⟨rfl, rfl⟩
      unfold boom
      go_wp2
      refine ⟨rfl, ?_⟩
      rw [HNO.out]
      exact ⟨rfl, (HW4.out).2.2⟩
    by_cases hx : ps.length = 0
    case neg =>
      have HNO := Lib.hid ((HEQ4.out).trans (show adv T4 (need _ (some [])) = none from by rw [need_no (fun h => hx h.2.1)]; rfl))
      subst ht
      have hl1 : (nx == 0) = false := by rw [beq_eq_false_iff_ne]; omega
      have hl2 : ((nx : Int) == 0) = false := by rw [beq_eq_false_iff_ne]; omega
      clear hnx hnb hx
      go_wp2_with fail
      refine (must_no _).mono ?_
      rintro e9 w9 ⟨rfl, rfl⟩
      unfold boom
      go_wp2
      refine ⟨rfl, ?_⟩
      rw [HNO.out]
      exact ⟨rfl, (HW4.out).2.2⟩
    by_cases hbl0 : bd.length = 0
    case neg =>
      have HNO := Lib.hid ((HEQ4.out).trans (show adv T4 (need _ (some [])) = none from by rw [need_no (fun h => hbl0 h.2.2)]; rfl))
      subst ht
      obtain rfl : nx = 0 := by omega
      have hl1 : (nb == 0) = false := by rw [beq_eq_false_iff_ne]; omega
      have hl2 : ((nb : Int) == 0) = false := by rw [beq_eq_false_iff_ne]; omega
      clear hnx hnb hx hbl0
      go_wp2_with fail
      refine (must_no _).mono ?_
      rintro e9 w9 ⟨rfl, rfl⟩
      unfold boom
      go_wp2
      refine ⟨rfl, ?_⟩
      rw [HNO.out]
      exact ⟨rfl, (HW4.out).2.2⟩
    have HFIN := Lib.hid ((HEQ4.out).trans (show adv T4 (need _ (some [])) = some T4 from by rw [need_yes ⟨ht, hx, hbl0⟩]; exact adv_nil (HW4.out).1.fit))
    subst ht
    obtain rfl : nx = 0 := by omega
    obtain rfl : nb = 0 := by omega
    clear hnx hnb hx hbl0
    go_wp2_with fail
    refine (must_yes _).mono ?_
    rintro e9 w9 ⟨rfl, rfl⟩
    go_wp2
    go_end0
    rw [HFIN.out]
    exact ⟨rfl, _, HW4.out⟩

set_option maxRecDepth 100000 in
set_option maxHeartbeats 4000000 in
theorem decl_2_no {w0 w : World} {Bc Ba B : Nat} {u : Value} {T : List (List UInt8)} {p n : Int} {nm ty : List UInt8} {ps : List Pr} {bd : List Sm} {vp vb : Value} (htab : Tab B w0) (hb : Below B w0 w) (hB : B ≤ w.heap.size) (hp : PenAt w Bc Ba B u T) (hnl : nm.length ≤ 40000) (htl : ty.length ≤ 40000)
    (hps : PrsIn w0 (· < B) ps vp) (hsm : ∀ p ∈ ps, p.name.length ≤ 40000 ∧ p.type.length ≤ 40000) (hbd : WritesB w0 B bd vb) (hbs : ∃ A c, vb = .slice A bd.length c) (hq : nameB nm = true) (hn4 : ¬ (1 ≤ n ∧ n ≤ 4)) :
    Calls Tryd.prog 63 #[penV Bc Ba, .agg #[.int .i64 2, .int .i64 p, .int .i64 n, .string (strOf nm), .string (strOf ty), vp, vb]] w (PenPost w Bc Ba B u (adv T (penD ⟨2, p, n, nm, ty, ps, bd⟩))) := by
  obtain ⟨Ap, cp, hvp, _, _, _⟩ := id hps
  subst hvp
  obtain ⟨Ab, cb, hvb⟩ := hbs
  subst hvb
  obtain ⟨X, hX⟩ : ∃ X : World, X = w.alloc (.cells #[.int .i64 2, .int .i64 p, .int .i64 n, .string (strOf nm), .string (strOf ty), .slice Ap ps.length cp, .slice Ab bd.length cb] 53) := ⟨_, rfl⟩
  obtain ⟨g, hg⟩ : ∃ g, g = w.heap.size := ⟨_, rfl⟩
  have hd : DcBlk X g 2 p n (strOf nm) (strOf ty) (.slice Ap ps.length cp) (.slice Ab bd.length cb) := by rw [hX, hg]; exact DcBlk.new _ _ _ _ _ _ _ _
  have hw : Went w Bc Ba B u X u T := by rw [hX]; exact (Went.refl hp).alloc _
  have hg1 : Bc < g := by rw [hg]; exact lt_of_heap hp.cnt
  have hg2 : Ba < g := by rw [hg]; exact lt_of_heap hp.buf
  have hwg : w.heap.size ≤ g := by rw [hg]; exact Nat.le_refl _
  have hsz : (strOf nm).size ≤ 40000 := by rw [Lib.size_eq, strOf_data]; exact hnl
  have HX := Lib.hid hX
  have HG := Lib.hid hg
  have HD := Lib.hid hd
  have HW := Lib.hid hw
  have HPS := Lib.hid hps
  have HSM := Lib.hid hsm
  clear hX hg hd hw hps hsm
  have HEQ := Lib.hid (congrArg (adv T) ((penD_2 p n nm ty ps bd hq).trans (by rw [need_cat_no hn4])))
  have HTN := Lib.hid (takeName_yes ⟨g, 3, none⟩ (strOf nm) X HD.out.c3 (HD.out.frz 3) hsz hq)
  unfold penV
  go_enter Tryd.func63, Tryd.ntmps63
  go_wp2_with fail
  rw [← HX.out, ← HG.out]
  refine HTN.out.mono ?_
  rintro e1 w1 ⟨rfl, wm, hbl, hw1⟩
  have HW1 : Hid (Went w Bc Ba B u w1 u T) := Lib.hid (by rw [hw1]; exact (HW.out.below hbl).setCell _ _ hwg ((HD.out).apart (HW.out).1 hg1 hg2))
  have HD1 := Lib.hid (show DcBlk w1 g 2 p n (strOf []) (strOf ty) (.slice Ap ps.length cp) (.slice Ab bd.length cb) from by rw [hw1]; exact (HD.out.below hbl HD.out.lt).s3 _)
  clear hbl hw1
  have a2 := (HD1.out).c0
  go_wp2_with fail
  have HNO := HEQ
  refine (takeNum_no ⟨g, 2, none⟩ n 1 4 _ (HD1.out).c2 hn4).mono ?_
  rintro e8 w8 ⟨rfl, rfl⟩
  have HCH := Lib.hid ((HW1.out).2.2)
  unfold boom
  go_wp2
  refine ⟨rfl, ?_⟩
  rw [HNO.out]
  exact ⟨rfl, HCH.out⟩

end Go.Proofs.YtmbkjabjcphkbaaDoor
end
section
/- The contract of a declaration's writer and of a program's. -/
set_option linter.unusedVariables false
namespace Go.Proofs.YtmbkjabjcphkbaaDoor
open Go.RowKit

/-- the declaration s, whose parts are the slices a, b, is written wherever the blocks below B are as in w0 -/
def WritesD (w0 : World) (B : Nat) (s : Dc) (a b : Value) : Prop :=
  ∀ (w : World) (Bc Ba : Nat) (u : Value) (T : List (List UInt8)), Below B w0 w → B ≤ w.heap.size → PenAt w Bc Ba B u T →
    Calls Tryd.prog 63 #[penV Bc Ba, .agg #[.int .i64 s.kind, .int .i64 s.pl, .int .i64 s.num, .string (strOf s.name), .string (strOf s.type), a, b]] w (PenPost w Bc Ba B u (adv T (penD s)))
theorem decl_step {w0 : World} {B : Nat} (htab : Tab B w0) (s : Dc) {a b : Value} (hn : s.name.length ≤ 40000) (ht : s.type.length ≤ 40000) (hps : PrsIn w0 (· < B) s.pairs a) (hsm : ∀ p ∈ s.pairs, p.name.length ≤ 40000 ∧ p.type.length ≤ 40000)
    (hbd : WritesB w0 B s.body b) (hbs : ∃ A c, b = .slice A s.body.length c) : WritesD w0 B s a b := by
  obtain ⟨k, p, n, nm, ty, ps, bd⟩ := s
  intro w Bc Ba u T hb hB hp
  have hps : PrsIn w0 (· < B) ps a := hps
  have hsm : ∀ p ∈ ps, p.name.length ≤ 40000 ∧ p.type.length ≤ 40000 := hsm
  have hn : nm.length ≤ 40000 := hn
  have ht : ty.length ≤ 40000 := ht
  have hbd : WritesB w0 B bd b := hbd
  have hbs : ∃ A c, b = .slice A bd.length c := hbs
  show Calls Tryd.prog 63 #[penV Bc Ba, .agg #[.int .i64 k, .int .i64 p, .int .i64 n, .string (strOf nm), .string (strOf ty), a, b]] w (PenPost w Bc Ba B u (adv T (penD ⟨k, p, n, nm, ty, ps, bd⟩)))
  by_cases hq : nameB nm = true
  case neg => exact decl_noname htab hb hB hp hn ht hps hsm hbd hbs hq
  by_cases k1 : k = 1
  · subst k1
    exact decl_1 htab hb hB hp hn ht hps hsm hbd hbs hq
  by_cases k3 : k = 3
  · subst k3
    exact decl_3 htab hb hB hp hn ht hps hsm hbd hbs hq
  by_cases k4 : k = 4
  · subst k4
    exact decl_4 htab hb hB hp hn ht hps hsm hbd hbs hq
  by_cases k5 : k = 5
  · subst k5
    exact decl_5 htab hb hB hp hn ht hps hsm hbd hbs hq
  by_cases k6 : k = 6
  · subst k6
    exact decl_6 htab hb hB hp hn ht hps hsm hbd hbs hq
  by_cases k8 : k = 8
  · subst k8
    exact decl_8 htab hb hB hp hn ht hps hsm hbd hbs hq
  by_cases k2 : k = 2
  · subst k2
    by_cases h4 : 1 ≤ n ∧ n ≤ 4
    · exact decl_2_yes htab hb hB hp hn ht hps hsm hbd hbs hq h4
    · exact decl_2_no htab hb hB hp hn ht hps hsm hbd hbs hq h4
  by_cases k7 : k = 7
  · subst k7
    by_cases h4 : ty = []
    · exact decl_7_b htab hb hB hp hn ht hps hsm hbd hbs hq h4
    · exact decl_7_a htab hb hB hp hn ht hps hsm hbd hbs hq h4
  exact decl_else htab hb hB hp hn ht hps hsm hbd hbs hq (by omega)
/-- the declarations ss lie at the slice V, and each is written -/
def ReadsD (w0 : World) (B : Nat) (ss : List Dc) (V : Value) : Prop :=
  ∃ A c, V = .slice A ss.length c ∧ ss.length ≤ c ∧ c ≤ 9223372036854775807 ∧ ∀ (j : Nat) (hj : j < ss.length), ∃ b off A1 n1 c1 A2 n2 c2, A = some ⟨b, off, none⟩ ∧ b < B ∧
    w0.cell? ⟨b, off + j * 7, none⟩ = some (.int .i64 ss[j].kind) ∧ w0.cell? ⟨b, off + j * 7 + 1, none⟩ = some (.int .i64 ss[j].pl) ∧ w0.cell? ⟨b, off + j * 7 + 2, none⟩ = some (.int .i64 ss[j].num) ∧
    w0.cell? ⟨b, off + j * 7 + 3, none⟩ = some (.string (strOf ss[j].name)) ∧ w0.cell? ⟨b, off + j * 7 + 4, none⟩ = some (.string (strOf ss[j].type)) ∧ w0.cell? ⟨b, off + j * 7 + 5, none⟩ = some (.slice A1 n1 c1) ∧
    w0.cell? ⟨b, off + j * 7 + 6, none⟩ = some (.slice A2 n2 c2) ∧ WritesD w0 B ss[j] (.slice A1 n1 c1) (.slice A2 n2 c2)
theorem penDs_drop {ss : List Dc} {j : Nat} (h : j < ss.length) : penDs (ss.drop j) = cat (penD ss[j]) (penDs (ss.drop (j + 1))) := by
  rw [List.drop_eq_getElem_cons h, penDs]
set_option maxRecDepth 100000 in
set_option maxHeartbeats 2000000 in
theorem program_step {w0 w : World} {Bc Ba B : Nat} {u : Value} {T : List (List UInt8)} {ss : List Dc} {V : Value} (hrs : ReadsD w0 B ss V) (hb : Below B w0 w) (hB : B ≤ w.heap.size) (hp : PenAt w Bc Ba B u T) :
    Calls Tryd.prog 36 #[penV Bc Ba, .agg #[V]] w (PenPost w Bc Ba B u (adv T (penP ss))) := by
  obtain ⟨A, c, rfl, hc, hM, hA⟩ := hrs
  obtain ⟨n, hn⟩ : ∃ n, n = ss.length := ⟨_, rfl⟩
  obtain ⟨Q, hQ⟩ : ∃ Q : Ts, Q = penP ss := ⟨_, rfl⟩
  rw [← hn] at hc ⊢
  rw [← hQ]
  by_cases h4 : n ≤ 64
  · have h4' : decide ((n : Int) ≤ 64) = true := by rw [decide_eq_true_eq]; omega
    have HEQ : Hid (adv T Q = adv T (penDs ss)) := Lib.hid (by rw [hQ]; unfold penP; rw [need_yes (by omega)])
    have HN := Lib.hid hn
    have HA := Lib.hid hA
    have HP := Lib.hid hp
    have HBB := Lib.hid hb
    have hfit := hp.fit
    have HFIT := Lib.hid hfit
    unfold penV
    clear hn hA h4 hp hb hQ hfit
    go_enter Tryd.func36, Tryd.ntmps36
    go_wp2_with fail
    refine (must_yes _).mono ?_
    rintro e w1 ⟨rfl, rfl⟩
    go_wp2_with fail
    go_loopw [14] (fun i wr => ∃ (j : Nat) (u' : Value) (T' : List (List UInt8)), j ≤ n ∧ i = .int .i64 j ∧ Hid (Went w Bc Ba B u wr u' T') ∧ Hid (adv T Q = adv T' (penDs (ss.drop j)))) (fun i _ => n - (intOf i).toNat)
    case atStart => exact ⟨0, u, T, Nat.zero_le _, rfl, Lib.hid ((Went.refl HP.out).alloc _), HEQ⟩
    case round =>
      obtain ⟨wo, rfl⟩ : ∃ wo : World, wo = wr := ⟨_, rfl⟩
      obtain ⟨j, u2, T2, hj, rfl, HW2, HEQ2⟩ := hrel
      by_cases hlt : j < n
      · have hjt : j < ss.length := by rw [← HN.out]; exact hlt
        obtain ⟨b, off, A1, n1, c1, A2, n2, c2, rfl, hbB, r0, r1, r2, r3, r4, r5, r6, hWr⟩ := HA.out j hjt
        have hbw : Below B w0 wo := HBB.out.trans (HW2.out.2.2.below hB (fun x hx => (HP.out.mine hx).1))
        have up : ∀ {i : Nat} {v : Value}, w0.cell? ⟨b, i, none⟩ = some v → wo.cell? ⟨b, i, none⟩ = some v := fun h => (hbw.cell hbB).trans h
        have r0 := up r0
        have r1 := up r1
        have r2 := up r2
        have r3 := up r3
        have r4 := up r4
        have r5 := up r5
        have r6 := up r6
        have hdr := penDs_drop hjt
        obtain ⟨E, hE⟩ : ∃ E, E = ss[j] := ⟨_, rfl⟩
        rw [← hE] at r0 r1 r2 r3 r4 hWr hdr
        clear up hE
        obtain ⟨Y, hY⟩ : ∃ Y : World, Y = wo.alloc (.cells #[.int .i64 E.kind, .int .i64 E.pl, .int .i64 E.num, .string (strOf E.name), .string (strOf E.type), .slice A1 n1 c1, .slice A2 n2 c2] 53) := ⟨_, rfl⟩
        have hwy : Went w Bc Ba B u Y u2 T2 := by rw [hY]; exact HW2.out.alloc _
        have hby : Below B w0 Y := by rw [hY]; exact hbw.alloc (Nat.le_trans hB HW2.out.2.2.size) _
        have hcall := hWr Y Bc Ba u2 T2 hby (Nat.le_trans hB hwy.2.2.size) hwy.1
        have HEQ3 : Hid (adv T Q = adv T2 (cat (penD E) (penDs (ss.drop (j + 1))))) := Lib.hid (by rw [HEQ2.out, hdr])
        have HWY := Lib.hid hwy
        have HY := Lib.hid hY
        have HCALL := Lib.hid hcall
        clear hwy hY hcall hdr hWr hbw hby
        unfold penV at HCALL
        go_wp2_with fail
        rw [← HY.out]
        refine HCALL.out.mono ?_
        rintro e4 w4 hpost
        cases hR : adv T2 (penD E) with
        | none =>
          rw [hR] at hpost
          obtain ⟨rfl, hch⟩ := hpost
          have HNO := Lib.hid (HEQ3.out.trans (adv_cat_none hR _))
          have HCH := Lib.hid (HWY.out.fell hch)
          clear hR hch
          unfold boom
          go_wp2
          refine ⟨rfl, ?_⟩
          rw [HNO.out]
          exact ⟨rfl, HCH.out⟩
        | some T4 =>
          rw [hR] at hpost
          obtain ⟨rfl, u4, hwent⟩ := hpost
          have HW4 := Lib.hid (HWY.out.trans hwent)
          have HEQ5 := Lib.hid (HEQ3.out.trans (adv_cat_some hR _))
          clear hwent hR
          go_wp2_with fail
          go_roundw
          case rel => exact ⟨j + 1, u4, T4, by omega, by go_num, HW4, HEQ5⟩
          case measure => simp [intOf]; omega
      · have hjn : j = n := by omega
        subst hjn
        have hdn : ss.drop j = [] := List.drop_of_length_le (by rw [HN.out]; exact Nat.le_refl _)
        have HFIN : Hid (adv T Q = some T2) := Lib.hid (by rw [HEQ2.out, hdn, penDs]; exact adv_nil HW2.out.1.fit)
        clear hdn
        go_wp2
        go_end0
        rw [HFIN.out]
        exact ⟨rfl, u2, HW2.out⟩
  · have h4' : decide ((n : Int) ≤ 64) = false := by rw [decide_eq_false_iff_not]; omega
    have HNO : Hid (adv T Q = none) := Lib.hid (by rw [hQ]; unfold penP; rw [need_no (by omega)]; rfl)
    clear hn hA hp hb hQ h4
    unfold penV
    go_enter Tryd.func36, Tryd.ntmps36
    go_wp2_with fail
    refine (must_no _).mono ?_
    rintro e w1 ⟨rfl, rfl⟩
    unfold boom
    go_wp2
    refine ⟨rfl, ?_⟩
    rw [HNO.out]
    exact ⟨rfl, (Chg.refl _ _).alloc _⟩
/-- a declaration small enough for the names -/
def smallDN (d : Dc) : Prop := d.name.length ≤ 40000 ∧ d.type.length ≤ 40000 ∧ (∀ p ∈ d.pairs, p.name.length ≤ 40000 ∧ p.type.length ≤ 40000) ∧ smallSs 40000 d.body
theorem program_any {w0 w : World} {Bc Ba B : Nat} {u : Value} {T : List (List UInt8)} (htab : Tab B w0) {ss : List Dc} {V : Value} (h : DcsIn w0 (· < B) ss V) (hsm : ∀ (k : Nat) (hk : k < ss.length), smallDN ss[k]) (hb : Below B w0 w) (hB : B ≤ w.heap.size) (hp : PenAt w Bc Ba B u T) :
    Calls Tryd.prog 36 #[penV Bc Ba, .agg #[V]] w (PenPost w Bc Ba B u (adv T (penP ss))) := by
  refine program_step ?_ hb hB hp
  obtain ⟨A, c, fp, fb, rfl, hc, hM, hA, hpr, hbd⟩ := h
  refine ⟨A, c, rfl, hc, hM, fun j hj => ?_⟩
  obtain ⟨b, off, h1, h2, h3, h4, c0, c1, c2, c3, c4, c5, c6⟩ := hA j hj
  obtain ⟨s1, s2, s3, s4⟩ := hsm j hj
  obtain ⟨A1, k1, e1, _, _⟩ := id (hpr j hj)
  obtain ⟨A2, k2, e2, _, _⟩ := (hbd j hj).slice
  have hw := decl_step htab ss[j] s1 s2 (hpr j hj) s3 (block_any htab (hbd j hj) s4) ⟨A2, k2, e2⟩
  rw [e1, e2] at hw
  rw [e1] at c5
  rw [e2] at c6
  exact ⟨b, off, A1, _, k1, A2, _, k2, h1, h2, c0, c1, c2, c3, c4, c5, c6, hw⟩

end Go.Proofs.YtmbkjabjcphkbaaDoor
end
section
/- Show, ShowExpr, ShowType and Right answer the plain model. -/
set_option linter.unusedVariables false
namespace Go.Proofs.YtmbkjabjcphkbaaDoor
open Go.RowKit

def TabW (w : World) : Prop := Lib.TabIs Tryd.prog w "internal/strconv.uint64pow10" .u64 Lib.pow10Tab
theorem TabW.below {w w1 : World} (h : TabW w) (hb : Below w.heap.size w w1) : TabW w1 := Lib.tabBelow_of_tabIs h w1 hb
theorem TabW.tab {w : World} (h : TabW w) : Tab w.heap.size w := Lib.tabBelow_of_tabIs h
set_option maxRecDepth 100000 in
theorem types_writes {w : World} {g : Nat} (t : List UInt8) (ht : t.length ≤ 40000) (hg : w.heap[g]? = some (.cells #[.string (strOf t)] 9 (0, 0))) : Writes 31 #[.pointer (some ⟨g, 0, none⟩)] w (tyT t) := by
  intro wx Bc Ba hb hB hp
  have hc : wx.cell? ⟨g, 0, none⟩ = some (.string (strOf t)) := by
    rw [cell_of_row wx g 0 _ _ (0, 0) ((hb.block g (lt_of_heap hg)).trans hg)]; rfl
  have HT := Lib.hid (types_any hp hB t ht)
  unfold penV at HT
  unfold penV
  clear hb hg hp
  go_enter Tryd.func31, Tryd.ntmps31
  go_wp2_with fail
  refine HT.out.mono ?_
  rintro e1 w1 hpost
  cases hR : adv [] (tyT t) with
  | none =>
    rw [hR] at hpost
    obtain ⟨rfl, hch⟩ := hpost
    have HCH := Lib.hid hch
    clear hR hch
    unfold boom
    go_wp2
    exact ⟨rfl, rfl, HCH.out⟩
  | some T1 =>
    rw [hR] at hpost
    obtain ⟨rfl, u1, hwent⟩ := hpost
    have HWE := Lib.hid hwent
    have HR := Lib.hid hR
    clear hR hwent
    go_wp2
    go_end0
    first
      | exact ⟨rfl, u1, HWE.out⟩
      | (rw [HR.out]; exact ⟨rfl, u1, HWE.out⟩)
set_option maxRecDepth 100000 in
theorem showType_any (w : World) (t : List UInt8) (ht : t.length ≤ 40000) :
    Calls Tryd.prog 16 #[.string (strOf t)] w fun e w' => e = .returned (.string (strOf (fin (tyT t)).1)) ∧ Below w.heap.size w w' := by
  have hmf : ∀ (fn : Fn) (first cap : Array Value) (w : World), (Instr.makeFunc fn first cap).run Tryd.prog w = .ok (.func fn first cap) w := fun _ _ _ _ => rfl
  obtain ⟨X, hX⟩ : ∃ X : World, X = w.alloc (.cells #[.string (strOf t)] 9) := ⟨_, rfl⟩
  have hg : X.heap[w.heap.size]? = some (.cells #[.string (strOf t)] 9 (0, 0)) := by rw [hX]; exact heap_alloc_new _ _
  have hbx : Below w.heap.size w X := by rw [hX]; exact (Below.refl _ _).alloc (Nat.le_refl _) _
  have HWR := Lib.hid (written_any 31 #[.pointer (some ⟨w.heap.size, 0, none⟩)] X (tyT t) (fun _ _ => rfl) (types_writes t ht hg))
  have HX := Lib.hid hX
  have HBX := Lib.hid hbx
  clear hX hg hbx
  go_enter Tryd.func16, Tryd.ntmps16
  go_wp2_with fail
  rw [← HX.out]
  refine HWR.out.mono ?_
  rintro e1 w1 ⟨rfl, hb1⟩
  have HB1 := Lib.hid (HBX.out.trans (hb1.mono HBX.out.size))
  clear hb1
  go_wp2
  go_ret
  exact ⟨rfl, HB1.out⟩

end Go.Proofs.YtmbkjabjcphkbaaDoor
end
section
/- From the rows' listed tables to what the walks ask. -/
set_option linter.unusedVariables false
set_option maxRecDepth 100000
namespace Go.Proofs.YtmbkjabjcphkbaaDoor
open Go Go.RowKit

def laidL : List (String × DataW Unit) := [("math/bits.deBruijn32tab", Rows.laid_math_bits_deBruijn32tab), ("math/bits.deBruijn64tab", Rows.laid_math_bits_deBruijn64tab), ("internal/strconv.uint64pow10", Rows.laid_internal_strconv_uint64pow10)]
theorem ownKnob_none : ownKnob Tryd.prog.godebug = none := by kernel_rfl
theorem laid_is : (Rows.laid_internal_strconv_uint64pow10 : DataW Unit) = Lib.tabData .u64 Lib.pow10Tab := by kernel_rfl
theorem tabW_of_laid {W : World} (h : laidMetH Tryd.prog laidL W) : TabW W := by
  have h1 : laidMet Tryd.prog laidL W := h
  have h2 : laidMet Tryd.prog [("internal/strconv.uint64pow10", Lib.tabData .u64 Lib.pow10Tab)] W := by
    rw [← laid_is]; exact h1.tail.tail
  exact Lib.tabIs_of_head (g := 1) (t := 161) (e := 153) (n := 20) (by kernel_rfl) (by kernel_rfl) (by kernel_rfl) (by kernel_rfl) (by kernel_rfl) (by kernel_rfl) h2
theorem door_met (os : Os) (args : Array Value) : laidMetH Tryd.prog laidL ((World.doorLaid Tryd.prog 24 os).forCall (fun _ _ => 0) ⟨#[], args, []⟩).memory :=
  laidMetH_of_parts3 (fuel := 8) (laidMet_of_run' 8 (by kernel_rfl) (by kernel_rfl)) (by kernel_rfl) (by kernel_rfl)

end Go.Proofs.YtmbkjabjcphkbaaDoor
end
section
/- From a law's walk to its row: facts of the program. -/
namespace Go.Proofs.YtmbkjabjcphkbaaDoor
open Go.ChangeShapes Go.WideShapes Go.ChangeAt Go.RowKit

theorem Tryd.own : ownKnob Tryd.prog.godebug = none := by kernel_rfl
theorem Tryd.laidOut : laidOutB Tryd.prog = true := by kernel_rfl

theorem shut_true {H : Type} {enc : TypeId × Value → H} {W : World} {base : Nat} {sp : Nat → Bool} {held : Bool} (b : Bool) : DataW.Trod enc Tryd.prog W base sp held 4 (.bool b) (.lit (.bool b)) [] :=
  ⟨1, by simp [DataW.trod, Value.cells, Tryd.underlying4]⟩

end Go.Proofs.YtmbkjabjcphkbaaDoor
end
