/- Xd -/
import Derived.Test.YtihjdfbdpcghdaaDoorZe7
import Derived.IntWalk
set_option linter.unusedVariables false
namespace Go.Proofs.YtihjdfbdpcghdaaDoor
open Go.RowKit
set_option maxRecDepth 100000 in
set_option maxHeartbeats 4000000 in
theorem decl_1 {w0 w : World} {Bc Ba B : Nat} {u : Value} {T : List (List UInt8)} {p n : Int} {nm ty : List UInt8} {ps : List Pr} {bd : List Sm} {vp vb : Value} (htab : Tab B w0) (hb : Below B w0 w) (hB : B ≤ w.heap.size) (hp : PenAt w Bc Ba B u T) (hnl : nm.length ≤ 40000) (htl : ty.length ≤ 40000)
    (hps : PrsIn w0 (· < B) ps vp) (hsm : ∀ p ∈ ps, p.name.length ≤ 40000 ∧ p.type.length ≤ 40000) (hbd : WritesB w0 B bd vb) (hbs : ∃ A c, vb = .slice A bd.length c) (hq : nameB nm = true) :
    Calls Tryd.prog 42 #[penV Bc Ba, .agg #[.int .i64 1, .int .i64 p, .int .i64 n, .string (strOf nm), .string (strOf ty), vp, vb]] w (PenPost w Bc Ba B u (adv T (penD ⟨1, p, n, nm, ty, ps, bd⟩))) := by
  obtain ⟨Ap, cp, hvp, _, _, _⟩ := id hps
  subst hvp
  obtain ⟨Ab, cb, hvb⟩ := hbs
  subst hvb
  obtain ⟨X, hX⟩ : ∃ X : World, X = w.alloc (.cells #[.int .i64 1, .int .i64 p, .int .i64 n, .string (strOf nm), .string (strOf ty), .slice Ap ps.length cp, .slice Ab bd.length cb] 42) := ⟨_, rfl⟩
  obtain ⟨g, hg⟩ : ∃ g, g = w.heap.size := ⟨_, rfl⟩
  have hd : DcBlk X g 1 p n (strOf nm) (strOf ty) (.slice Ap ps.length cp) (.slice Ab bd.length cb) := by rw [hX, hg]; exact DcBlk.new _ _ _ _ _ _ _ _
  have hw : Went w Bc Ba B u X u T := by rw [hX]; exact (Went.refl hp).alloc _
  have hg1 : Bc < g := by rw [hg]; exact lt_of_heap hp.cnt
  have hg2 : Ba < g := by rw [hg]; exact lt_of_heap hp.buf
  have hwg : w.heap.size ≤ g := by rw [hg]; exact Nat.le_refl _
  have hsz : (strOf nm).size ≤ 40000 := by rw [Lib.size_eq, strOf_data]; exact hnl
  have HX := Lib.hid hX
  have HG := Lib.hid hg
  have HD := Lib.hid hd
  have HW := Lib.hid hw
  have HPS := Lib.hid hps
  have HSM := Lib.hid hsm
  clear hX hg hd hw hps hsm
  have HEQ := Lib.hid (congrArg (adv T) (penD_1 p n nm ty ps bd hq))
  have HTN := Lib.hid (takeName_yes ⟨g, 3, none⟩ (strOf nm) X HD.out.c3 (HD.out.frz 3) hsz hq)
  unfold penV
  go_enter Tryd.func42, Tryd.ntmps42
  go_wp2_with fail
  rw [← HX.out, ← HG.out]
  refine HTN.out.mono ?_
  rintro e1 w1 ⟨rfl, wm, hbl, hw1⟩
  have HW1 : Hid (Went w Bc Ba B u w1 u T) := Lib.hid (by rw [hw1]; exact (HW.out.below hbl).setCell _ _ hwg ((HD.out).apart (HW.out).1 hg1 hg2))
  have HD1 := Lib.hid (show DcBlk w1 g 1 p n (strOf []) (strOf ty) (.slice Ap ps.length cp) (.slice Ab bd.length cb) from by rw [hw1]; exact (HD.out.below hbl HD.out.lt).s3 _)
  clear hbl hw1
  have a2 := (HD1.out).c0
  go_wp2_with fail
  refine (put_new (Went.refl (HW1.out).1) (Nat.le_trans hB (HW1.out).2.2.size) [wordS 5, nm, [59]] (by intro t ht; simp at ht; have := hnl; have := htl; first | (rcases ht with rfl | rfl | rfl | rfl <;> first | decide | assumption | simp) | (rcases ht with rfl | rfl | rfl <;> first | decide | assumption | simp) | (rcases ht with rfl | rfl <;> first | decide | assumption | simp) | (rw [ht]; first | decide | assumption) | (rw [ht]; simp)) (by simp)).mono ?_
  rintro e3 w3 hpost
  cases hR : adv T (some [wordS 5, nm, [59]]) with
  | none =>
    rw [hR] at hpost
    obtain ⟨rfl, hch⟩ := hpost
    have HNO := Lib.hid ((HEQ.out).trans (adv_cat_none hR _))
    have HCH := Lib.hid ((HW1.out).fell hch)
    clear hR hch
    unfold boom
    go_wp2
    refine ⟨rfl, ?_⟩
    rw [HNO.out]
    exact ⟨rfl, HCH.out⟩
  | some T3 =>
    rw [hR] at hpost
    obtain ⟨rfl, u3, hwent⟩ := hpost
    have HW3 := Lib.hid ((HW1.out).trans hwent)
    have HD3 := Lib.hid ((HD1.out).went (HW1.out).1 hg1 hg2 hwent)
    have HEQ3 := Lib.hid ((HEQ.out).trans (adv_cat_some hR _))
    clear hwent hR
    have c2 := (HD3.out).c2
    have c4 := (HD3.out).c4
    have c5 := (HD3.out).c5
    have c6 := (HD3.out).c6
    have hz0 : (strOf []).toList = [] := strOf_toList []
    obtain ⟨nx, hnx⟩ : ∃ m, m = ps.length := ⟨_, rfl⟩
    rw [← hnx] at c5
    obtain ⟨nb, hnb⟩ : ∃ m, m = bd.length := ⟨_, rfl⟩
    rw [← hnb] at c6
    by_cases hn : n = 0
    case neg =>
      have HNO := Lib.hid ((HEQ3.out).trans (show adv T3 (need _ (some [])) = none from by rw [need_no (fun h => hn h.1)]; rfl))
      have hs1 : (n == 0) = false := by rw [beq_eq_false_iff_ne]; exact hn
      clear hnx hnb hn
      go_wp2_with fail
      refine (must_no _).mono ?_
      rintro e9 w9 ⟨rfl, rfl⟩
      unfold boom
      go_wp2
      refine ⟨rfl, ?_⟩
      rw [HNO.out]
      exact ⟨rfl, (HW3.out).2.2⟩
    by_cases ht : ty = []
    case neg =>
      have HNO := Lib.hid ((HEQ3.out).trans (show adv T3 (need _ (some [])) = none from by rw [need_no (fun h => ht h.2.1)]; rfl))
      subst hn
      have hs1 : ¬ (strOf ty).toList = [] := by rw [strOf_toList]; exact ht
      clear hnx hnb ht
      go_wp2_with fail
      refine (must_no _).mono ?_
      rintro e9 w9 ⟨rfl, rfl⟩
      unfold boom
      go_wp2
      refine ⟨rfl, ?_⟩
      rw [HNO.out]
      exact ⟨rfl, (HW3.out).2.2⟩
    by_cases hx : ps.length = 0
    case neg =>
      have HNO := Lib.hid ((HEQ3.out).trans (show adv T3 (need _ (some [])) = none from by rw [need_no (fun h => hx h.2.2.1)]; rfl))
      subst hn
      subst ht
      have hl1 : (nx == 0) = false := by rw [beq_eq_false_iff_ne]; omega
      have hl2 : ((nx : Int) == 0) = false := by rw [beq_eq_false_iff_ne]; omega
      clear hnx hnb hx
      go_wp2_with fail
      refine (must_no _).mono ?_
      rintro e9 w9 ⟨rfl, rfl⟩
      unfold boom
      go_wp2
      refine ⟨rfl, ?_⟩
      rw [HNO.out]
      exact ⟨rfl, (HW3.out).2.2⟩
    by_cases hbl0 : bd.length = 0
    case neg =>
      have HNO := Lib.hid ((HEQ3.out).trans (show adv T3 (need _ (some [])) = none from by rw [need_no (fun h => hbl0 h.2.2.2)]; rfl))
      subst hn
      subst ht
      obtain rfl : nx = 0 := by omega
      have hl1 : (nb == 0) = false := by rw [beq_eq_false_iff_ne]; omega
      have hl2 : ((nb : Int) == 0) = false := by rw [beq_eq_false_iff_ne]; omega
      clear hnx hnb hx hbl0
      go_wp2_with fail
      refine (must_no _).mono ?_
      rintro e9 w9 ⟨rfl, rfl⟩
      unfold boom
      go_wp2
      refine ⟨rfl, ?_⟩
      rw [HNO.out]
      exact ⟨rfl, (HW3.out).2.2⟩
    have HFIN := Lib.hid ((HEQ3.out).trans (show adv T3 (need _ (some [])) = some T3 from by rw [need_yes ⟨hn, ht, hx, hbl0⟩]; exact adv_nil (HW3.out).1.fit))
    subst hn
    subst ht
    obtain rfl : nx = 0 := by omega
    obtain rfl : nb = 0 := by omega
    clear hnx hnb hx hbl0
    go_wp2_with fail
    refine (must_yes _).mono ?_
    rintro e9 w9 ⟨rfl, rfl⟩
    go_wp2
    go_end0
    rw [HFIN.out]
    exact ⟨rfl, _, HW3.out⟩
set_option maxRecDepth 100000 in
set_option maxHeartbeats 4000000 in
theorem decl_noname {w0 w : World} {Bc Ba B : Nat} {u : Value} {T : List (List UInt8)} {p n : Int} {nm ty : List UInt8} {ps : List Pr} {bd : List Sm} {vp vb : Value} (htab : Tab B w0) (hb : Below B w0 w) (hB : B ≤ w.heap.size) (hp : PenAt w Bc Ba B u T) (hnl : nm.length ≤ 40000) (htl : ty.length ≤ 40000)
    (hps : PrsIn w0 (· < B) ps vp) (hsm : ∀ p ∈ ps, p.name.length ≤ 40000 ∧ p.type.length ≤ 40000) (hbd : WritesB w0 B bd vb) (hbs : ∃ A c, vb = .slice A bd.length c) {k : Int} (hq : ¬ nameB nm = true) :
    Calls Tryd.prog 42 #[penV Bc Ba, .agg #[.int .i64 k, .int .i64 p, .int .i64 n, .string (strOf nm), .string (strOf ty), vp, vb]] w (PenPost w Bc Ba B u (adv T (penD ⟨k, p, n, nm, ty, ps, bd⟩))) := by
  obtain ⟨Ap, cp, hvp, _, _, _⟩ := id hps
  subst hvp
  obtain ⟨Ab, cb, hvb⟩ := hbs
  subst hvb
  obtain ⟨X, hX⟩ : ∃ X : World, X = w.alloc (.cells #[.int .i64 k, .int .i64 p, .int .i64 n, .string (strOf nm), .string (strOf ty), .slice Ap ps.length cp, .slice Ab bd.length cb] 42) := ⟨_, rfl⟩
  obtain ⟨g, hg⟩ : ∃ g, g = w.heap.size := ⟨_, rfl⟩
  have hd : DcBlk X g k p n (strOf nm) (strOf ty) (.slice Ap ps.length cp) (.slice Ab bd.length cb) := by rw [hX, hg]; exact DcBlk.new _ _ _ _ _ _ _ _
  have hw : Went w Bc Ba B u X u T := by rw [hX]; exact (Went.refl hp).alloc _
  have hg1 : Bc < g := by rw [hg]; exact lt_of_heap hp.cnt
  have hg2 : Ba < g := by rw [hg]; exact lt_of_heap hp.buf
  have hwg : w.heap.size ≤ g := by rw [hg]; exact Nat.le_refl _
  have hsz : (strOf nm).size ≤ 40000 := by rw [Lib.size_eq, strOf_data]; exact hnl
  have HX := Lib.hid hX
  have HG := Lib.hid hg
  have HD := Lib.hid hd
  have HW := Lib.hid hw
  have HPS := Lib.hid hps
  have HSM := Lib.hid hsm
  clear hX hg hd hw hps hsm
  have HNO := Lib.hid (congrArg (adv T) (penD_name ⟨k, p, n, nm, ty, ps, bd⟩ hq))
  have HTN := Lib.hid (takeName_no ⟨g, 3, none⟩ (strOf nm) X HD.out.c3 hsz (by simpa [strOf_data] using hq))
  unfold penV
  go_enter Tryd.func42, Tryd.ntmps42
  go_wp2_with fail
  rw [← HX.out, ← HG.out]
  refine HTN.out.mono ?_
  rintro e8 w8 ⟨rfl, hbl⟩
  have HCH := Lib.hid (HW.out.2.2.trans (Chg.of_below (P := fun _ => False) hbl) (fun _ _ e => e.elim))
  unfold boom
  go_wp2
  refine ⟨rfl, ?_⟩
  rw [HNO.out]
  exact ⟨rfl, HCH.out⟩
set_option maxRecDepth 100000 in
set_option maxHeartbeats 4000000 in
theorem decl_else {w0 w : World} {Bc Ba B : Nat} {u : Value} {T : List (List UInt8)} {p n : Int} {nm ty : List UInt8} {ps : List Pr} {bd : List Sm} {vp vb : Value} (htab : Tab B w0) (hb : Below B w0 w) (hB : B ≤ w.heap.size) (hp : PenAt w Bc Ba B u T) (hnl : nm.length ≤ 40000) (htl : ty.length ≤ 40000)
    (hps : PrsIn w0 (· < B) ps vp) (hsm : ∀ p ∈ ps, p.name.length ≤ 40000 ∧ p.type.length ≤ 40000) (hbd : WritesB w0 B bd vb) (hbs : ∃ A c, vb = .slice A bd.length c) (hq : nameB nm = true) {k : Int} (hk : k < 1 ∨ 8 < k) :
    Calls Tryd.prog 42 #[penV Bc Ba, .agg #[.int .i64 k, .int .i64 p, .int .i64 n, .string (strOf nm), .string (strOf ty), vp, vb]] w (PenPost w Bc Ba B u (adv T (penD ⟨k, p, n, nm, ty, ps, bd⟩))) := by
  obtain ⟨Ap, cp, hvp, _, _, _⟩ := id hps
  subst hvp
  obtain ⟨Ab, cb, hvb⟩ := hbs
  subst hvb
  obtain ⟨X, hX⟩ : ∃ X : World, X = w.alloc (.cells #[.int .i64 k, .int .i64 p, .int .i64 n, .string (strOf nm), .string (strOf ty), .slice Ap ps.length cp, .slice Ab bd.length cb] 42) := ⟨_, rfl⟩
  obtain ⟨g, hg⟩ : ∃ g, g = w.heap.size := ⟨_, rfl⟩
  have hd : DcBlk X g k p n (strOf nm) (strOf ty) (.slice Ap ps.length cp) (.slice Ab bd.length cb) := by rw [hX, hg]; exact DcBlk.new _ _ _ _ _ _ _ _
  have hw : Went w Bc Ba B u X u T := by rw [hX]; exact (Went.refl hp).alloc _
  have hg1 : Bc < g := by rw [hg]; exact lt_of_heap hp.cnt
  have hg2 : Ba < g := by rw [hg]; exact lt_of_heap hp.buf
  have hwg : w.heap.size ≤ g := by rw [hg]; exact Nat.le_refl _
  have hsz : (strOf nm).size ≤ 40000 := by rw [Lib.size_eq, strOf_data]; exact hnl
  have HX := Lib.hid hX
  have HG := Lib.hid hg
  have HD := Lib.hid hd
  have HW := Lib.hid hw
  have HPS := Lib.hid hps
  have HSM := Lib.hid hsm
  clear hX hg hd hw hps hsm
  have HEQ := Lib.hid (congrArg (adv T) (penD_else p n nm ty ps bd k hk))
  have e1k : (k == 1) = false := by rw [beq_eq_false_iff_ne]; omega
  have e2k : (k == 2) = false := by rw [beq_eq_false_iff_ne]; omega
  have e3k : (k == 3) = false := by rw [beq_eq_false_iff_ne]; omega
  have e4k : (k == 4) = false := by rw [beq_eq_false_iff_ne]; omega
  have e5k : (k == 5) = false := by rw [beq_eq_false_iff_ne]; omega
  have e6k : (k == 6) = false := by rw [beq_eq_false_iff_ne]; omega
  have e7k : (k == 7) = false := by rw [beq_eq_false_iff_ne]; omega
  have e8k : (k == 8) = false := by rw [beq_eq_false_iff_ne]; omega
  clear hk
  have HTN := Lib.hid (takeName_yes ⟨g, 3, none⟩ (strOf nm) X HD.out.c3 (HD.out.frz 3) hsz hq)
  unfold penV
  go_enter Tryd.func42, Tryd.ntmps42
  go_wp2_with fail
  rw [← HX.out, ← HG.out]
  refine HTN.out.mono ?_
  rintro e1 w1 ⟨rfl, wm, hbl, hw1⟩
  have HW1 : Hid (Went w Bc Ba B u w1 u T) := Lib.hid (by rw [hw1]; exact (HW.out.below hbl).setCell _ _ hwg ((HD.out).apart (HW.out).1 hg1 hg2))
  have HD1 := Lib.hid (show DcBlk w1 g k p n (strOf []) (strOf ty) (.slice Ap ps.length cp) (.slice Ab bd.length cb) from by rw [hw1]; exact (HD.out.below hbl HD.out.lt).s3 _)
  clear hbl hw1
  have a2 := (HD1.out).c0
  go_wp2_with fail
  have HNO := HEQ
  refine (must_no _).mono ?_
  rintro e8 w8 ⟨rfl, rfl⟩
  have HCH := Lib.hid ((HW1.out).2.2)
  unfold boom
  go_wp2
  refine ⟨rfl, ?_⟩
  rw [HNO.out]
  exact ⟨rfl, HCH.out⟩
end Go.Proofs.YtihjdfbdpcghdaaDoor
