/- Wl; Wd; Wm; Wn -/
import Derived.Test.YtmbkjabjcphkbaaDoorZa7
import Derived.Test.YtmbkjabjcphkbaaDoorZa8
import Derived.Test.YtmbkjabjcphkbaaDoorZa9
section
/- The walks of a statement, kind by kind. -/
set_option linter.unusedVariables false
namespace Go.Proofs.YtmbkjabjcphkbaaDoor
open Go.RowKit

set_option maxRecDepth 100000 in
set_option maxHeartbeats 4000000 in
theorem stmt_2_yes {w0 w : World} {Bc Ba B : Nat} {u : Value} {T : List (List UInt8)} {p : Int} {nm ty : List UInt8} {V bv ev : Value} {ex : List Ex} {bd el : List Sm} {d : Int} (hb : Below B w0 w) (hB : B ≤ w.heap.size) (hp : PenAt w Bc Ba B u T) (hd0 : 0 ≤ d) (hd : d ≤ 24) (hr : Reads w0 B ex V) (hnl : nm.length ≤ 40000) (htl : ty.length ≤ 40000)
    (hbd : WritesB w0 B bd bv) (hel : WritesB w0 B el ev) (hbs : ∃ A c, bv = .slice A bd.length c) (hes : ∃ A c, ev = .slice A el.length c) (hgt : 0 < ex.length) (hq : placeB ex) :
    Calls Tryd.prog 116 #[penV Bc Ba, .agg #[.int .i64 2, .int .i64 p, .string (strOf nm), .string (strOf ty), V, bv, ev], .int .i64 d] w (PenPost w Bc Ba B u (adv T (penS (.mk 2 p nm ty ex bd el) d))) := by
  have hmf : ∀ (fn : Fn) (first cap : Array Value) (w : World), (Instr.makeFunc fn first cap).run Tryd.prog w = .ok (.func fn first cap) w := fun _ _ _ _ => rfl
  obtain ⟨A, c, hrv, _, _, hall⟩ := id hr
  subst hrv
  obtain ⟨b, off, A5, n5, c5, rfl, hbB, _, r0, r1, r2, r3, r4, _⟩ := hall 0 hgt
  have up : ∀ {i : Nat} {v : Value}, w0.cell? ⟨b, i, none⟩ = some v → ∀ o1 o2 o3, (((w.alloc o1).alloc o2).alloc o3).cell? ⟨b, i, none⟩ = some v := fun h o1 o2 o3 => alloc_cell (alloc_cell (alloc_cell ((hb.cell hbB).trans h) o1) o2) o3
  rw [Nat.zero_mul, Nat.add_zero] at r0 r1 r2 r3 r4
  have r0 := up r0
  have r1 := up r1
  have r2 := up r2
  have r3 := up r3
  have r4 := up r4
  have hpl : placeB ex ↔ (ex[0].kind = 4 ∨ ex[0].kind = 5 ∨ ex[0].kind = 6) := by
    cases ex with
    | nil => exact absurd hgt (by simp)
    | cons a r => exact Iff.rfl
  obtain ⟨E, hE⟩ : ∃ E, E = ex[0] := ⟨_, rfl⟩
  rw [← hE] at r0 r1 r2 r3 hpl
  clear up hall hE
  obtain ⟨Ab, cb, hbv⟩ := hbs
  subst hbv
  obtain ⟨Ae, ce, hev⟩ := hes
  subst hev
  obtain ⟨X, hX⟩ : ∃ X : World, X = ((w.alloc (.cells #[penV Bc Ba] 63)).alloc (.cells #[.int .i64 2, .int .i64 p, .string (strOf nm), .string (strOf ty), .slice (some ⟨b, off, none⟩) ex.length c, .slice Ab bd.length cb, .slice Ae el.length ce] 55)).alloc (.cells #[.int .i64 d] 3) := ⟨_, rfl⟩
  obtain ⟨g, hg⟩ : ∃ g, g = w.heap.size := ⟨_, rfl⟩
  obtain ⟨hf, hsz⟩ := st_new hX hg
  have hw : Went w Bc Ba B u X u T := by rw [hX]; exact (((Went.refl hp).alloc _).alloc _).alloc _
  have e0 := hf.sm.c0
  have hg1 : Bc < g := by rw [hg]; exact lt_of_heap hp.cnt
  have hg2 : Ba < g := by rw [hg]; exact lt_of_heap hp.buf
  have hBg : B ≤ g := by rw [hg]; exact hB
  have hwg : w.heap.size ≤ g := by rw [hg]; exact Nat.le_refl _
  have hd50 : d ≤ 50 := by omega
  have HEQ := Lib.hid (congrArg (adv T) ((penS_2 p nm ty ex bd el d).trans (need_cat_yes hq _)))
  have HXS : Hid (g + 1 + 1 + 1 = X.heap.size) := Lib.hid (by rw [hsz])
  have HX := Lib.hid hX
  have HG := Lib.hid hg
  have HF := Lib.hid hf
  have HW := Lib.hid hw
  have HR := Lib.hid hr
  clear hX hg hf hw hsz hr
  unfold penV at HX ⊢
  go_enter Tryd.func116, Tryd.ntmps116
  have pc1 := (HF.out).pc
  have dc1 := (HF.out).dc
  go_wp2_with fail
  rw [← HX.out, ← HG.out]
  refine (place_any E.kind E.pl E.num (strOf E.name) (A5) n5 c5 X true (by rw [eq_comm, decide_eq_true_eq]; exact hpl.1 hq)).mono ?_
  rintro e2 w2 ⟨rfl, hbl⟩
  have HW2 := Lib.hid ((HW.out).below hbl)
  have HF2 := Lib.hid ((HF.out).below hbl)
  clear hbl r0 r1 r2 r3 r4 hpl
  have pc3 := (HF2.out).pc
  have dc3 := (HF2.out).dc
  go_wp2_with fail
  refine (must_yes _).mono ?_
  rintro e8 w8 ⟨rfl, rfl⟩
  have pc4 := (HF2.out).pc
  have dc4 := (HF2.out).dc
  go_wp2_with fail
  refine (put_new (Went.refl (HW2.out).1) (Nat.le_trans hB (HW2.out).2.2.size) [wordS 2] (by intro t ht; simp at ht; have := hnl; have := htl; first | (rcases ht with rfl | rfl | rfl | rfl <;> first | decide | assumption | simp) | (rcases ht with rfl | rfl | rfl <;> first | decide | assumption | simp) | (rcases ht with rfl | rfl <;> first | decide | assumption | simp) | (rw [ht]; first | decide | assumption) | (rw [ht]; simp)) (by simp)).mono ?_
  rintro e5 w5 hpost
  cases hR : adv T (some [wordS 2]) with
  | none =>
    rw [hR] at hpost
    obtain ⟨rfl, hch⟩ := hpost
    have HNO := Lib.hid ((HEQ.out).trans (adv_cat_none hR _))
    have HCH := Lib.hid ((HW2.out).fell hch)
    clear hR hch
    unfold boom
    go_wp2
    refine ⟨rfl, ?_⟩
    rw [HNO.out]
    exact ⟨rfl, HCH.out⟩
  | some T5 =>
    rw [hR] at hpost
    obtain ⟨rfl, u5, hwent⟩ := hpost
    have HW5 := Lib.hid ((HW2.out).trans hwent)
    have HF5 := Lib.hid ((HF2.out).went (HW2.out).1 hg1 hg2 hwent)
    have HEQ5 := Lib.hid ((HEQ.out).trans (adv_cat_some hR _))
    clear hwent hR
    have pc6 := (HF5.out).pc
    have dc6 := (HF5.out).dc
    go_wp2_with fail
    refine (ste_new (hb.trans ((HW5.out).2.2.below hB (fun x hx => (hp.mine hx).1))) hBg hg1 hg2 (HW5.out).1 (HF5.out) (HR.out) hd0 hd50 [[61]] (by intro t ht; simp at ht; have := hnl; have := htl; first | (rcases ht with rfl | rfl | rfl | rfl <;> first | decide | assumption | simp) | (rcases ht with rfl | rfl | rfl <;> first | decide | assumption | simp) | (rcases ht with rfl | rfl <;> first | decide | assumption | simp) | (rw [ht]; first | decide | assumption) | (rw [ht]; simp)) (by simp)).mono ?_
    rintro e7 w7 hpost
    cases hR : adv T5 (argC ex d [[61]]) with
    | none =>
      rw [hR] at hpost
      obtain ⟨rfl, hch⟩ := hpost
      have HNO := Lib.hid ((HEQ5.out).trans (adv_cat_none hR _))
      have HCH := Lib.hid ((HW5.out).fell_fr hwg hch)
      clear hR hch
      unfold boom
      go_wp2
      refine ⟨rfl, ?_⟩
      rw [HNO.out]
      exact ⟨rfl, HCH.out⟩
    | some T7 =>
      rw [hR] at hpost
      obtain ⟨rfl, u7, V7, hpA, hown, hch, hfr, hrd⟩ := hpost
      obtain ⟨A7, c7, hV, _, _, _⟩ := id hrd
      subst hV
      have HW7 := Lib.hid ((HW5.out).fr hwg hpA hown hch)
      have HF7 := Lib.hid hfr
      have HR7 := Lib.hid hrd
      have HEQ7 := Lib.hid ((HEQ5.out).trans (adv_cat_some hR _))
      clear hpA hown hch hfr hrd hR
      have pc8 := (HF7.out).pc
      have dc8 := (HF7.out).dc
      go_wp2_with fail
      refine (ste_new (hb.trans ((HW7.out).2.2.below hB (fun x hx => (hp.mine hx).1))) hBg hg1 hg2 (HW7.out).1 (HF7.out) (HR7.out) hd0 hd50 [[59]] (by intro t ht; simp at ht; have := hnl; have := htl; first | (rcases ht with rfl | rfl | rfl | rfl <;> first | decide | assumption | simp) | (rcases ht with rfl | rfl | rfl <;> first | decide | assumption | simp) | (rcases ht with rfl | rfl <;> first | decide | assumption | simp) | (rw [ht]; first | decide | assumption) | (rw [ht]; simp)) (by simp)).mono ?_
      rintro e9 w9 hpost
      cases hR : adv T7 (argC ex.tail d [[59]]) with
      | none =>
        rw [hR] at hpost
        obtain ⟨rfl, hch⟩ := hpost
        have HNO := Lib.hid ((HEQ7.out).trans (adv_cat_none hR _))
        have HCH := Lib.hid ((HW7.out).fell_fr hwg hch)
        clear hR hch
        unfold boom
        go_wp2
        refine ⟨rfl, ?_⟩
        rw [HNO.out]
        exact ⟨rfl, HCH.out⟩
      | some T9 =>
        rw [hR] at hpost
        obtain ⟨rfl, u9, V9, hpA, hown, hch, hfr, hrd⟩ := hpost
        obtain ⟨A9, c9, hV, _, _, _⟩ := id hrd
        subst hV
        have HW9 := Lib.hid ((HW7.out).fr hwg hpA hown hch)
        have HF9 := Lib.hid hfr
        have HR9 := Lib.hid hrd
        have HEQ9 := Lib.hid ((HEQ7.out).trans (adv_cat_some hR _))
        clear hpA hown hch hfr hrd hR
        have c2 := (HF9.out).sm.c2
        have c3 := (HF9.out).sm.c3
        have c4 := (HF9.out).sm.c4
        have c5 := (HF9.out).sm.c5
        have c6 := (HF9.out).sm.c6
        have hz0 : (strOf []).toList = [] := strOf_toList []
        obtain ⟨m, hm⟩ : ∃ m, m = (ex.tail.tail).length := ⟨_, rfl⟩
        rw [← hm] at c4
        obtain ⟨nb, hnb⟩ : ∃ m, m = bd.length := ⟨_, rfl⟩
        rw [← hnb] at c5
        obtain ⟨ne, hne⟩ : ∃ m, m = el.length := ⟨_, rfl⟩
        rw [← hne] at c6
        by_cases hn : nm = []
        case neg =>
          have HNO := Lib.hid ((HEQ9.out).trans (show adv T9 (need _ (some [])) = none from by rw [need_no (fun h => hn h.1)]; rfl))
          have hs1 : ¬ (strOf nm).toList = [] := by rw [strOf_toList]; exact hn
          clear hm hnb hne hn
          go_wp2_with fail
          refine (must_no _).mono ?_
          rintro e9 w9 ⟨rfl, rfl⟩
          unfold boom
          go_wp2
          refine ⟨rfl, ?_⟩
          rw [HNO.out]
          exact ⟨rfl, (HW9.out).2.2⟩
        by_cases ht : ty = []
        case neg =>
          have HNO := Lib.hid ((HEQ9.out).trans (show adv T9 (need _ (some [])) = none from by rw [need_no (fun h => ht h.2.1)]; rfl))
          subst hn
          have hs1 : ¬ (strOf ty).toList = [] := by rw [strOf_toList]; exact ht
          clear hm hnb hne ht
          go_wp2_with fail
          refine (must_no _).mono ?_
          rintro e9 w9 ⟨rfl, rfl⟩
          unfold boom
          go_wp2
          refine ⟨rfl, ?_⟩
          rw [HNO.out]
          exact ⟨rfl, (HW9.out).2.2⟩
        by_cases hx : (ex.tail.tail).length = 0
        case neg =>
          have HNO := Lib.hid ((HEQ9.out).trans (show adv T9 (need _ (some [])) = none from by rw [need_no (fun h => hx h.2.2.1)]; rfl))
          subst hn
          subst ht
          have hl1 : (m == 0) = false := by rw [beq_eq_false_iff_ne]; omega
          have hl2 : ((m : Int) == 0) = false := by rw [beq_eq_false_iff_ne]; omega
          clear hm hnb hne hx
          go_wp2_with fail
          refine (must_no _).mono ?_
          rintro e9 w9 ⟨rfl, rfl⟩
          unfold boom
          go_wp2
          refine ⟨rfl, ?_⟩
          rw [HNO.out]
          exact ⟨rfl, (HW9.out).2.2⟩
        by_cases hbl0 : bd.length = 0
        case neg =>
          have HNO := Lib.hid ((HEQ9.out).trans (show adv T9 (need _ (some [])) = none from by rw [need_no (fun h => hbl0 h.2.2.2.1)]; rfl))
          subst hn
          subst ht
          obtain rfl : m = 0 := by omega
          have hl1 : (nb == 0) = false := by rw [beq_eq_false_iff_ne]; omega
          have hl2 : ((nb : Int) == 0) = false := by rw [beq_eq_false_iff_ne]; omega
          clear hm hnb hne hx hbl0
          go_wp2_with fail
          refine (must_no _).mono ?_
          rintro e9 w9 ⟨rfl, rfl⟩
          unfold boom
          go_wp2
          refine ⟨rfl, ?_⟩
          rw [HNO.out]
          exact ⟨rfl, (HW9.out).2.2⟩
        by_cases hel0 : el.length = 0
        case neg =>
          have HNO := Lib.hid ((HEQ9.out).trans (show adv T9 (need _ (some [])) = none from by rw [need_no (fun h => hel0 h.2.2.2.2)]; rfl))
          subst hn
          subst ht
          obtain rfl : m = 0 := by omega
          obtain rfl : nb = 0 := by omega
          have hl1 : (ne == 0) = false := by rw [beq_eq_false_iff_ne]; omega
          have hl2 : ((ne : Int) == 0) = false := by rw [beq_eq_false_iff_ne]; omega
          clear hm hnb hne hx hbl0 hel0
          go_wp2_with fail
          refine (must_no _).mono ?_
          rintro e9 w9 ⟨rfl, rfl⟩
          unfold boom
          go_wp2
          refine ⟨rfl, ?_⟩
          rw [HNO.out]
          exact ⟨rfl, (HW9.out).2.2⟩
        have HFIN := Lib.hid ((HEQ9.out).trans (show adv T9 (need _ (some [])) = some T9 from by rw [need_yes ⟨hn, ht, hx, hbl0, hel0⟩]; exact adv_nil (HW9.out).1.fit))
        subst hn
        subst ht
        obtain rfl : m = 0 := by omega
        obtain rfl : nb = 0 := by omega
        obtain rfl : ne = 0 := by omega
        clear hm hnb hne hx hbl0 hel0
        go_wp2_with fail
        refine (must_yes _).mono ?_
        rintro e9 w9 ⟨rfl, rfl⟩
        go_wp2
        go_end0
        rw [HFIN.out]
        exact ⟨rfl, _, HW9.out⟩

set_option maxRecDepth 100000 in
set_option maxHeartbeats 4000000 in
theorem stmt_2_none {w0 w : World} {Bc Ba B : Nat} {u : Value} {T : List (List UInt8)} {p : Int} {nm ty : List UInt8} {V bv ev : Value} {ex : List Ex} {bd el : List Sm} {d : Int} (hb : Below B w0 w) (hB : B ≤ w.heap.size) (hp : PenAt w Bc Ba B u T) (hd0 : 0 ≤ d) (hd : d ≤ 24) (hr : Reads w0 B ex V) (hnl : nm.length ≤ 40000) (htl : ty.length ≤ 40000)
    (hbd : WritesB w0 B bd bv) (hel : WritesB w0 B el ev) (hbs : ∃ A c, bv = .slice A bd.length c) (hes : ∃ A c, ev = .slice A el.length c) (hz : ex.length = 0) :
    Calls Tryd.prog 116 #[penV Bc Ba, .agg #[.int .i64 2, .int .i64 p, .string (strOf nm), .string (strOf ty), V, bv, ev], .int .i64 d] w (PenPost w Bc Ba B u (adv T (penS (.mk 2 p nm ty ex bd el) d))) := by
  have hq1 : ¬ 0 < ex.length := by omega
  have hmf : ∀ (fn : Fn) (first cap : Array Value) (w : World), (Instr.makeFunc fn first cap).run Tryd.prog w = .ok (.func fn first cap) w := fun _ _ _ _ => rfl
  obtain ⟨A, c, hrv, _, _, _⟩ := id hr
  subst hrv
  obtain ⟨Ab, cb, hbv⟩ := hbs
  subst hbv
  obtain ⟨Ae, ce, hev⟩ := hes
  subst hev
  obtain ⟨X, hX⟩ : ∃ X : World, X = ((w.alloc (.cells #[penV Bc Ba] 63)).alloc (.cells #[.int .i64 2, .int .i64 p, .string (strOf nm), .string (strOf ty), .slice A ex.length c, .slice Ab bd.length cb, .slice Ae el.length ce] 55)).alloc (.cells #[.int .i64 d] 3) := ⟨_, rfl⟩
  obtain ⟨g, hg⟩ : ∃ g, g = w.heap.size := ⟨_, rfl⟩
  obtain ⟨hf, hsz⟩ := st_new hX hg
  have hw : Went w Bc Ba B u X u T := by rw [hX]; exact (((Went.refl hp).alloc _).alloc _).alloc _
  have e0 := hf.sm.c0
  have hg1 : Bc < g := by rw [hg]; exact lt_of_heap hp.cnt
  have hg2 : Ba < g := by rw [hg]; exact lt_of_heap hp.buf
  have hBg : B ≤ g := by rw [hg]; exact hB
  have hwg : w.heap.size ≤ g := by rw [hg]; exact Nat.le_refl _
  have hd50 : d ≤ 50 := by omega
  have HEQ := Lib.hid (congrArg (adv T) ((penS_2 p nm ty ex bd el d).trans (need_cat_no (by rw [List.eq_nil_of_length_eq_zero hz]; exact fun h => h) _)))
  have HXS : Hid (g + 1 + 1 + 1 = X.heap.size) := Lib.hid (by rw [hsz])
  have HX := Lib.hid hX
  have HG := Lib.hid hg
  have HF := Lib.hid hf
  have HW := Lib.hid hw
  have HR := Lib.hid hr
  clear hX hg hf hw hsz hr
  clear hz
  unfold penV at HX ⊢
  go_enter Tryd.func116, Tryd.ntmps116
  have HNO := HEQ
  have pc1 := (HF.out).pc
  have dc1 := (HF.out).dc
  go_wp2_with fail
  rw [← HX.out]
  refine (must_no _).mono ?_
  rintro e2 w2 ⟨rfl, rfl⟩
  have HCH := Lib.hid ((HW.out).2.2)
  unfold boom
  go_wp2
  refine ⟨rfl, ?_⟩
  rw [HNO.out]
  exact ⟨rfl, HCH.out⟩

set_option maxRecDepth 100000 in
set_option maxHeartbeats 4000000 in
theorem stmt_2_no {w0 w : World} {Bc Ba B : Nat} {u : Value} {T : List (List UInt8)} {p : Int} {nm ty : List UInt8} {V bv ev : Value} {ex : List Ex} {bd el : List Sm} {d : Int} (hb : Below B w0 w) (hB : B ≤ w.heap.size) (hp : PenAt w Bc Ba B u T) (hd0 : 0 ≤ d) (hd : d ≤ 24) (hr : Reads w0 B ex V) (hnl : nm.length ≤ 40000) (htl : ty.length ≤ 40000)
    (hbd : WritesB w0 B bd bv) (hel : WritesB w0 B el ev) (hbs : ∃ A c, bv = .slice A bd.length c) (hes : ∃ A c, ev = .slice A el.length c) (hgt : 0 < ex.length) (hq : ¬ placeB ex) :
    Calls Tryd.prog 116 #[penV Bc Ba, .agg #[.int .i64 2, .int .i64 p, .string (strOf nm), .string (strOf ty), V, bv, ev], .int .i64 d] w (PenPost w Bc Ba B u (adv T (penS (.mk 2 p nm ty ex bd el) d))) := by
  have hmf : ∀ (fn : Fn) (first cap : Array Value) (w : World), (Instr.makeFunc fn first cap).run Tryd.prog w = .ok (.func fn first cap) w := fun _ _ _ _ => rfl
  obtain ⟨A, c, hrv, _, _, hall⟩ := id hr
  subst hrv
  obtain ⟨b, off, A5, n5, c5, rfl, hbB, _, r0, r1, r2, r3, r4, _⟩ := hall 0 hgt
  have up : ∀ {i : Nat} {v : Value}, w0.cell? ⟨b, i, none⟩ = some v → ∀ o1 o2 o3, (((w.alloc o1).alloc o2).alloc o3).cell? ⟨b, i, none⟩ = some v := fun h o1 o2 o3 => alloc_cell (alloc_cell (alloc_cell ((hb.cell hbB).trans h) o1) o2) o3
  rw [Nat.zero_mul, Nat.add_zero] at r0 r1 r2 r3 r4
  have r0 := up r0
  have r1 := up r1
  have r2 := up r2
  have r3 := up r3
  have r4 := up r4
  have hpl : placeB ex ↔ (ex[0].kind = 4 ∨ ex[0].kind = 5 ∨ ex[0].kind = 6) := by
    cases ex with
    | nil => exact absurd hgt (by simp)
    | cons a r => exact Iff.rfl
  obtain ⟨E, hE⟩ : ∃ E, E = ex[0] := ⟨_, rfl⟩
  rw [← hE] at r0 r1 r2 r3 hpl
  clear up hall hE
  obtain ⟨Ab, cb, hbv⟩ := hbs
  subst hbv
  obtain ⟨Ae, ce, hev⟩ := hes
  subst hev
  obtain ⟨X, hX⟩ : ∃ X : World, X = ((w.alloc (.cells #[penV Bc Ba] 63)).alloc (.cells #[.int .i64 2, .int .i64 p, .string (strOf nm), .string (strOf ty), .slice (some ⟨b, off, none⟩) ex.length c, .slice Ab bd.length cb, .slice Ae el.length ce] 55)).alloc (.cells #[.int .i64 d] 3) := ⟨_, rfl⟩
  obtain ⟨g, hg⟩ : ∃ g, g = w.heap.size := ⟨_, rfl⟩
  obtain ⟨hf, hsz⟩ := st_new hX hg
  have hw : Went w Bc Ba B u X u T := by rw [hX]; exact (((Went.refl hp).alloc _).alloc _).alloc _
  have e0 := hf.sm.c0
  have hg1 : Bc < g := by rw [hg]; exact lt_of_heap hp.cnt
  have hg2 : Ba < g := by rw [hg]; exact lt_of_heap hp.buf
  have hBg : B ≤ g := by rw [hg]; exact hB
  have hwg : w.heap.size ≤ g := by rw [hg]; exact Nat.le_refl _
  have hd50 : d ≤ 50 := by omega
  have HEQ := Lib.hid (congrArg (adv T) ((penS_2 p nm ty ex bd el d).trans (need_cat_no hq _)))
  have HXS : Hid (g + 1 + 1 + 1 = X.heap.size) := Lib.hid (by rw [hsz])
  have HX := Lib.hid hX
  have HG := Lib.hid hg
  have HF := Lib.hid hf
  have HW := Lib.hid hw
  have HR := Lib.hid hr
  clear hX hg hf hw hsz hr
  unfold penV at HX ⊢
  go_enter Tryd.func116, Tryd.ntmps116
  have HNO := HEQ
  have pc1 := (HF.out).pc
  have dc1 := (HF.out).dc
  go_wp2_with fail
  rw [← HX.out, ← HG.out]
  refine (place_any E.kind E.pl E.num (strOf E.name) (A5) n5 c5 X false (by rw [eq_comm, decide_eq_false_iff_not]; exact fun h => hq (hpl.2 h))).mono ?_
  rintro e2 w2 ⟨rfl, hbl⟩
  have HW2 := Lib.hid ((HW.out).below hbl)
  have HF2 := Lib.hid ((HF.out).below hbl)
  clear hbl r0 r1 r2 r3 r4 hpl
  have pc3 := (HF2.out).pc
  have dc3 := (HF2.out).dc
  go_wp2_with fail
  refine (must_no _).mono ?_
  rintro e8 w8 ⟨rfl, rfl⟩
  have HCH := Lib.hid ((HW2.out).2.2)
  unfold boom
  go_wp2
  refine ⟨rfl, ?_⟩
  rw [HNO.out]
  exact ⟨rfl, HCH.out⟩

end Go.Proofs.YtmbkjabjcphkbaaDoor
end
section
/- The closure block of a statement's writer; the walk of call. -/
set_option linter.unusedVariables false
namespace Go.Proofs.YtmbkjabjcphkbaaDoor
open Go.RowKit

set_option maxRecDepth 100000 in
set_option maxHeartbeats 2000000 in
theorem call_none {w0 w : World} {Bc Ba B : Nat} {u : Value} {T0 : List (List UInt8)} (hb : Below B w0 w) (hB : B ≤ w.heap.size) (hp : PenAt w Bc Ba B u T0) (ty nm : List UInt8) (hty : ty.length ≤ 40000) (hnm : nm.length ≤ 40000) (es : List Ex) {V : Value} (hr : Reads w0 B es V) (D : Int) (hD0 : 0 ≤ D) (hD : D ≤ 100) (h0 : ty = []) :
    Calls Tryd.prog 134 #[penV Bc Ba, .string (strOf ty), .string (strOf nm), V, .int .i64 D] w (PenPost w Bc Ba B u (adv T0 (callC ty nm es D))) := by
  obtain ⟨A, c, hrv, _, _, _⟩ := id hr
  subst hrv
  obtain ⟨X, hX⟩ : ∃ X : World, X = w.alloc (.cells #[.string (strOf ty)] 9) := ⟨_, rfl⟩
  have hblk : X.heap[w.heap.size]? = some (.cells #[.string (strOf ty)] 9 (0, 0)) := by rw [hX]; exact heap_alloc_new _ _
  have hw : Went w Bc Ba B u X u T0 := by rw [hX]; exact (Went.refl hp).alloc _
  have hst := strOf_toList ty
  have c0 := cell_of_row X w.heap.size 0 _ _ (0, 0) hblk
  simp at c0
  have HP := Lib.hid hp
  have HB := Lib.hid hb
  have HR0 := Lib.hid hr
  have HW0 := Lib.hid hw
  have HX := Lib.hid hX
  have HXS : Hid (w.heap.size + 1 = X.heap.size) := Lib.hid (by rw [hX]; simp)
  have HBLK := Lib.hid hblk
  have HST := Lib.hid hst
  have HTY := Lib.hid hty
  have HNM := Lib.hid hnm
  have hnb : ¬ Mine Bc Ba u w.heap.size := fun hm => by have := (hp.mine hm).2; omega
  have HNB := Lib.hid hnb
  have HEQ0 : Hid (adv T0 (callC ty nm es D) = adv T0 (cat (some [[99, 97, 108, 108]]) (cat (some [nm]) (cat (argsC es D) (some [[59]]))))) := Lib.hid (by unfold callC; rw [if_pos h0, cat_nil_l])
  have hs0 : (strOf ty).toList = [] := by rw [hst, h0]
  clear hX hblk hw hst hp hb hr hty hnm hnb h0
  unfold penV
  go_enter Tryd.func134, Tryd.ntmps134
  go_wp2_with fail
  rw [← HX.out, HXS.out]
  refine (put_new (Went.refl HW0.out.1) (Nat.le_trans hB HW0.out.2.2.size) [[99, 97, 108, 108]] (by intro t ht; simp at ht; rw [ht]; decide) (by simp)).mono ?_
  rintro e1 w1 hpost
  cases hR : adv T0 (some [[99, 97, 108, 108]]) with
  | none =>
    rw [hR] at hpost
    obtain ⟨rfl, hch⟩ := hpost
    have HNO := Lib.hid (HEQ0.out.trans (adv_cat_none hR _))
    have HCH := Lib.hid (HW0.out.fell hch)
    clear hR hch
    unfold boom
    go_wp2
    refine ⟨rfl, ?_⟩
    rw [HNO.out]
    exact ⟨rfl, HCH.out⟩
  | some T1 =>
    rw [hR] at hpost
    obtain ⟨rfl, u1, hwent⟩ := hpost
    have HW1 := Lib.hid (HW0.out.trans hwent)
    have HEQ1 := Lib.hid (HEQ0.out.trans (adv_cat_some hR _))
    have hb1 : w1.heap[w.heap.size]? = some (.cells #[.string (strOf ty)] 9 (0, 0)) := (hwent.2.2.block _ (lt_of_heap HBLK.out) HNB.out).trans HBLK.out
    have HBLK1 := Lib.hid hb1
    have d1 := cell_of_row w1 w.heap.size 0 _ _ (0, 0) hb1
    simp at d1
    clear hb1
    clear hwent hR
    go_wp2_with fail
    refine (put_new (Went.refl HW1.out.1) (Nat.le_trans hB HW1.out.2.2.size) [nm] (by intro t ht; simp at ht; have := HNM.out; have := HTY.out; first | (rcases ht with rfl | rfl <;> first | assumption | decide) | (rw [ht]; assumption)) (by simp)).mono ?_
    rintro e4 w4 hpost
    cases hR : adv T1 (some [nm]) with
    | none =>
      rw [hR] at hpost
      obtain ⟨rfl, hch⟩ := hpost
      have HNO := Lib.hid (HEQ1.out.trans (adv_cat_none hR _))
      have HCH := Lib.hid (HW1.out.fell hch)
      clear hR hch
      unfold boom
      go_wp2
      refine ⟨rfl, ?_⟩
      rw [HNO.out]
      exact ⟨rfl, HCH.out⟩
    | some T4 =>
      rw [hR] at hpost
      obtain ⟨rfl, u4, hwent⟩ := hpost
      have HW4 := Lib.hid (HW1.out.trans hwent)
      have HEQ4 := Lib.hid (HEQ1.out.trans (adv_cat_some hR _))
      
      clear hwent hR
      have hb04 : Below B w0 w4 := HB.out.trans (HW4.out.2.2.below hB (fun x hx => (HP.out.mine hx).1))
      have HAR := Lib.hid (args_any hb04 (Nat.le_trans hB HW4.out.2.2.size) HW4.out.1 es HR0.out D hD0 hD)
      clear hb04
      unfold penV at HAR
      go_wp2_with fail
      refine (HAR.out).mono ?_
      rintro e5 w5 hpost
      cases hR : adv T4 (argsC es D) with
      | none =>
        rw [hR] at hpost
        obtain ⟨rfl, hch⟩ := hpost
        have HNO := Lib.hid (HEQ4.out.trans (adv_cat_none hR _))
        have HCH := Lib.hid (HW4.out.fell hch)
        clear hR hch
        unfold boom
        go_wp2
        refine ⟨rfl, ?_⟩
        rw [HNO.out]
        exact ⟨rfl, HCH.out⟩
      | some T5 =>
        rw [hR] at hpost
        obtain ⟨rfl, u5, hwent⟩ := hpost
        have HW5 := Lib.hid (HW4.out.trans hwent)
        have HEQ5 := Lib.hid (HEQ4.out.trans (adv_cat_some hR _))
        
        clear hwent hR
        go_wp2_with fail
        refine (put_new (Went.refl HW5.out.1) (Nat.le_trans hB HW5.out.2.2.size) [[59]] (by intro t ht; simp at ht; rw [ht]; decide) (by simp)).mono ?_
        rintro e9 w9 hpost
        cases hR : adv T5 (some [[59]]) with
        | none =>
          rw [hR] at hpost
          obtain ⟨rfl, hch⟩ := hpost
          have HNO := Lib.hid (HEQ5.out.trans hR)
          have HCH := Lib.hid (HW5.out.fell hch)
          clear hR hch
          unfold boom
          go_wp2
          refine ⟨rfl, ?_⟩
          rw [HNO.out]
          exact ⟨rfl, HCH.out⟩
        | some T9 =>
          rw [hR] at hpost
          obtain ⟨rfl, u9, hwent⟩ := hpost
          have HW9 := Lib.hid (HW5.out.trans hwent)
          have HFIN := Lib.hid (HEQ5.out.trans hR)
          clear hwent hR
          go_wp2
          go_end0
          rw [HFIN.out]
          exact ⟨rfl, u9, HW9.out⟩
set_option maxRecDepth 100000 in
set_option maxHeartbeats 2000000 in
theorem call_yes {w0 w : World} {Bc Ba B : Nat} {u : Value} {T0 : List (List UInt8)} (hb : Below B w0 w) (hB : B ≤ w.heap.size) (hp : PenAt w Bc Ba B u T0) (ty nm : List UInt8) (hty : ty.length ≤ 40000) (hnm : nm.length ≤ 40000) (es : List Ex) {V : Value} (hr : Reads w0 B es V) (D : Int) (hD0 : 0 ≤ D) (hD : D ≤ 100) (h0 : ¬ ty = []) (hq : nameB ty = true) :
    Calls Tryd.prog 134 #[penV Bc Ba, .string (strOf ty), .string (strOf nm), V, .int .i64 D] w (PenPost w Bc Ba B u (adv T0 (callC ty nm es D))) := by
  obtain ⟨A, c, hrv, _, _, _⟩ := id hr
  subst hrv
  obtain ⟨X, hX⟩ : ∃ X : World, X = w.alloc (.cells #[.string (strOf ty)] 9) := ⟨_, rfl⟩
  have hblk : X.heap[w.heap.size]? = some (.cells #[.string (strOf ty)] 9 (0, 0)) := by rw [hX]; exact heap_alloc_new _ _
  have hw : Went w Bc Ba B u X u T0 := by rw [hX]; exact (Went.refl hp).alloc _
  have hst := strOf_toList ty
  have c0 := cell_of_row X w.heap.size 0 _ _ (0, 0) hblk
  simp at c0
  have HP := Lib.hid hp
  have HB := Lib.hid hb
  have HR0 := Lib.hid hr
  have HW0 := Lib.hid hw
  have HX := Lib.hid hX
  have HXS : Hid (w.heap.size + 1 = X.heap.size) := Lib.hid (by rw [hX]; simp)
  have HBLK := Lib.hid hblk
  have HST := Lib.hid hst
  have HTY := Lib.hid hty
  have HNM := Lib.hid hnm
  have hnb : ¬ Mine Bc Ba u w.heap.size := fun hm => by have := (hp.mine hm).2; omega
  have HNB := Lib.hid hnb
  have HEQ0 : Hid (adv T0 (callC ty nm es D) = adv T0 (cat (some [[99, 97, 108, 108]]) (cat (some [ty, [61]]) (cat (some [nm]) (cat (argsC es D) (some [[59]])))))) := Lib.hid (by unfold callC; rw [if_neg h0, need_yes hq, cat_nil_l])
  have hs0 : ¬ (strOf ty).toList = [] := by rw [hst]; exact h0
  have hs1 : (!(strOf ty).toList.isEmpty) = true := by rw [Bool.not_eq_true', List.isEmpty_eq_false_iff]; exact hs0
  clear hX hblk hw hst hp hb hr hty hnm hnb h0
  unfold penV
  go_enter Tryd.func134, Tryd.ntmps134
  go_wp2_with fail
  rw [← HX.out, HXS.out]
  refine (put_new (Went.refl HW0.out.1) (Nat.le_trans hB HW0.out.2.2.size) [[99, 97, 108, 108]] (by intro t ht; simp at ht; rw [ht]; decide) (by simp)).mono ?_
  rintro e1 w1 hpost
  cases hR : adv T0 (some [[99, 97, 108, 108]]) with
  | none =>
    rw [hR] at hpost
    obtain ⟨rfl, hch⟩ := hpost
    have HNO := Lib.hid (HEQ0.out.trans (adv_cat_none hR _))
    have HCH := Lib.hid (HW0.out.fell hch)
    clear hR hch
    unfold boom
    go_wp2
    refine ⟨rfl, ?_⟩
    rw [HNO.out]
    exact ⟨rfl, HCH.out⟩
  | some T1 =>
    rw [hR] at hpost
    obtain ⟨rfl, u1, hwent⟩ := hpost
    have HW1 := Lib.hid (HW0.out.trans hwent)
    have HEQ1 := Lib.hid (HEQ0.out.trans (adv_cat_some hR _))
    have hb1 : w1.heap[w.heap.size]? = some (.cells #[.string (strOf ty)] 9 (0, 0)) := (hwent.2.2.block _ (lt_of_heap HBLK.out) HNB.out).trans HBLK.out
    have HBLK1 := Lib.hid hb1
    have d1 := cell_of_row w1 w.heap.size 0 _ _ (0, 0) hb1
    simp at d1
    clear hb1
    clear hwent hR
    have hsz : (strOf ty).size ≤ 40000 := by rw [Lib.size_eq, strOf_data]; exact HTY.out
    have HTN := Lib.hid (takeName_yes ⟨w.heap.size, 0, none⟩ (strOf ty) w1 d1 (frozen_of_row _ w.heap.size 0 _ _ HBLK1.out) hsz hq)
    clear hsz
    go_wp2_with fail
    refine HTN.out.mono ?_
    rintro e2 w2 ⟨rfl, wm, hbl, hw2⟩
    have hlt1 : w.heap.size < w1.heap.size := lt_of_heap HBLK1.out
    have hnm1 : ¬ Mine Bc Ba u1 w.heap.size := fun hm => by
      rcases hm with hm | hm | hm
      · exact HNB.out (.inl hm)
      · exact HNB.out (.inr (.inl hm))
      · obtain ⟨_, cur, hg⟩ := HW1.out.1.own.blk hm
        rw [HBLK1.out] at hg; simp at hg
    have HW2 : Hid (Went w Bc Ba B u w2 u1 T1) := Lib.hid (by rw [hw2]; exact (HW1.out.below hbl).setCell _ _ (Nat.le_refl _) hnm1)
    clear hbl hw2 hnm1 hlt1 d1
    obtain ⟨u2, hu2⟩ : ∃ u2, u2 = u1 := ⟨_, rfl⟩
    obtain ⟨T2, hT2⟩ : ∃ T2, T2 = T1 := ⟨_, rfl⟩
    rw [← hu2, ← hT2] at HW2
    rw [← hT2] at HEQ1
    have HEQ2 := HEQ1
    clear hu2 hT2
    go_wp2_with fail
    refine (put_new (Went.refl HW2.out.1) (Nat.le_trans hB HW2.out.2.2.size) [ty, [61]] (by intro t ht; simp at ht; have := HNM.out; have := HTY.out; first | (rcases ht with rfl | rfl <;> first | assumption | decide) | (rw [ht]; assumption)) (by simp)).mono ?_
    rintro e3 w3 hpost
    cases hR : adv T2 (some [ty, [61]]) with
    | none =>
      rw [hR] at hpost
      obtain ⟨rfl, hch⟩ := hpost
      have HNO := Lib.hid (HEQ2.out.trans (adv_cat_none hR _))
      have HCH := Lib.hid (HW2.out.fell hch)
      clear hR hch
      unfold boom
      go_wp2
      refine ⟨rfl, ?_⟩
      rw [HNO.out]
      exact ⟨rfl, HCH.out⟩
    | some T3 =>
      rw [hR] at hpost
      obtain ⟨rfl, u3, hwent⟩ := hpost
      have HW3 := Lib.hid (HW2.out.trans hwent)
      have HEQ3 := Lib.hid (HEQ2.out.trans (adv_cat_some hR _))
      
      clear hwent hR
      go_wp2_with fail
      refine (put_new (Went.refl HW3.out.1) (Nat.le_trans hB HW3.out.2.2.size) [nm] (by intro t ht; simp at ht; have := HNM.out; have := HTY.out; first | (rcases ht with rfl | rfl <;> first | assumption | decide) | (rw [ht]; assumption)) (by simp)).mono ?_
      rintro e4 w4 hpost
      cases hR : adv T3 (some [nm]) with
      | none =>
        rw [hR] at hpost
        obtain ⟨rfl, hch⟩ := hpost
        have HNO := Lib.hid (HEQ3.out.trans (adv_cat_none hR _))
        have HCH := Lib.hid (HW3.out.fell hch)
        clear hR hch
        unfold boom
        go_wp2
        refine ⟨rfl, ?_⟩
        rw [HNO.out]
        exact ⟨rfl, HCH.out⟩
      | some T4 =>
        rw [hR] at hpost
        obtain ⟨rfl, u4, hwent⟩ := hpost
        have HW4 := Lib.hid (HW3.out.trans hwent)
        have HEQ4 := Lib.hid (HEQ3.out.trans (adv_cat_some hR _))
        
        clear hwent hR
        have hb04 : Below B w0 w4 := HB.out.trans (HW4.out.2.2.below hB (fun x hx => (HP.out.mine hx).1))
        have HAR := Lib.hid (args_any hb04 (Nat.le_trans hB HW4.out.2.2.size) HW4.out.1 es HR0.out D hD0 hD)
        clear hb04
        unfold penV at HAR
        go_wp2_with fail
        refine (HAR.out).mono ?_
        rintro e5 w5 hpost
        cases hR : adv T4 (argsC es D) with
        | none =>
          rw [hR] at hpost
          obtain ⟨rfl, hch⟩ := hpost
          have HNO := Lib.hid (HEQ4.out.trans (adv_cat_none hR _))
          have HCH := Lib.hid (HW4.out.fell hch)
          clear hR hch
          unfold boom
          go_wp2
          refine ⟨rfl, ?_⟩
          rw [HNO.out]
          exact ⟨rfl, HCH.out⟩
        | some T5 =>
          rw [hR] at hpost
          obtain ⟨rfl, u5, hwent⟩ := hpost
          have HW5 := Lib.hid (HW4.out.trans hwent)
          have HEQ5 := Lib.hid (HEQ4.out.trans (adv_cat_some hR _))
          
          clear hwent hR
          go_wp2_with fail
          refine (put_new (Went.refl HW5.out.1) (Nat.le_trans hB HW5.out.2.2.size) [[59]] (by intro t ht; simp at ht; rw [ht]; decide) (by simp)).mono ?_
          rintro e9 w9 hpost
          cases hR : adv T5 (some [[59]]) with
          | none =>
            rw [hR] at hpost
            obtain ⟨rfl, hch⟩ := hpost
            have HNO := Lib.hid (HEQ5.out.trans hR)
            have HCH := Lib.hid (HW5.out.fell hch)
            clear hR hch
            unfold boom
            go_wp2
            refine ⟨rfl, ?_⟩
            rw [HNO.out]
            exact ⟨rfl, HCH.out⟩
          | some T9 =>
            rw [hR] at hpost
            obtain ⟨rfl, u9, hwent⟩ := hpost
            have HW9 := Lib.hid (HW5.out.trans hwent)
            have HFIN := Lib.hid (HEQ5.out.trans hR)
            clear hwent hR
            go_wp2
            go_end0
            rw [HFIN.out]
            exact ⟨rfl, u9, HW9.out⟩
set_option maxRecDepth 100000 in
set_option maxHeartbeats 2000000 in
theorem call_no {w0 w : World} {Bc Ba B : Nat} {u : Value} {T0 : List (List UInt8)} (hb : Below B w0 w) (hB : B ≤ w.heap.size) (hp : PenAt w Bc Ba B u T0) (ty nm : List UInt8) (hty : ty.length ≤ 40000) (hnm : nm.length ≤ 40000) (es : List Ex) {V : Value} (hr : Reads w0 B es V) (D : Int) (hD0 : 0 ≤ D) (hD : D ≤ 100) (h0 : ¬ ty = []) (hq : nameB ty = false) :
    Calls Tryd.prog 134 #[penV Bc Ba, .string (strOf ty), .string (strOf nm), V, .int .i64 D] w (PenPost w Bc Ba B u (adv T0 (callC ty nm es D))) := by
  obtain ⟨A, c, hrv, _, _, _⟩ := id hr
  subst hrv
  obtain ⟨X, hX⟩ : ∃ X : World, X = w.alloc (.cells #[.string (strOf ty)] 9) := ⟨_, rfl⟩
  have hblk : X.heap[w.heap.size]? = some (.cells #[.string (strOf ty)] 9 (0, 0)) := by rw [hX]; exact heap_alloc_new _ _
  have hw : Went w Bc Ba B u X u T0 := by rw [hX]; exact (Went.refl hp).alloc _
  have hst := strOf_toList ty
  have c0 := cell_of_row X w.heap.size 0 _ _ (0, 0) hblk
  simp at c0
  have HP := Lib.hid hp
  have HB := Lib.hid hb
  have HR0 := Lib.hid hr
  have HW0 := Lib.hid hw
  have HX := Lib.hid hX
  have HXS : Hid (w.heap.size + 1 = X.heap.size) := Lib.hid (by rw [hX]; simp)
  have HBLK := Lib.hid hblk
  have HST := Lib.hid hst
  have HTY := Lib.hid hty
  have HNM := Lib.hid hnm
  have hnb : ¬ Mine Bc Ba u w.heap.size := fun hm => by have := (hp.mine hm).2; omega
  have HNB := Lib.hid hnb
  have HEQ0 : Hid (adv T0 (callC ty nm es D) = adv T0 (cat (some [[99, 97, 108, 108]]) none)) := Lib.hid (by unfold callC; rw [if_neg h0, need_no (by simp [hq]), cat_none_l, cat_none_l])
  have hs0 : ¬ (strOf ty).toList = [] := by rw [hst]; exact h0
  have hs1 : (!(strOf ty).toList.isEmpty) = true := by rw [Bool.not_eq_true', List.isEmpty_eq_false_iff]; exact hs0
  clear hX hblk hw hst hp hb hr hty hnm hnb h0
  unfold penV
  go_enter Tryd.func134, Tryd.ntmps134
  go_wp2_with fail
  rw [← HX.out, HXS.out]
  refine (put_new (Went.refl HW0.out.1) (Nat.le_trans hB HW0.out.2.2.size) [[99, 97, 108, 108]] (by intro t ht; simp at ht; rw [ht]; decide) (by simp)).mono ?_
  rintro e1 w1 hpost
  cases hR : adv T0 (some [[99, 97, 108, 108]]) with
  | none =>
    rw [hR] at hpost
    obtain ⟨rfl, hch⟩ := hpost
    have HNO := Lib.hid (HEQ0.out.trans (adv_cat_none hR _))
    have HCH := Lib.hid (HW0.out.fell hch)
    clear hR hch
    unfold boom
    go_wp2
    refine ⟨rfl, ?_⟩
    rw [HNO.out]
    exact ⟨rfl, HCH.out⟩
  | some T1 =>
    rw [hR] at hpost
    obtain ⟨rfl, u1, hwent⟩ := hpost
    have HW1 := Lib.hid (HW0.out.trans hwent)
    have HEQ1 := Lib.hid (HEQ0.out.trans (adv_cat_some hR _))
    have hb1 : w1.heap[w.heap.size]? = some (.cells #[.string (strOf ty)] 9 (0, 0)) := (hwent.2.2.block _ (lt_of_heap HBLK.out) HNB.out).trans HBLK.out
    have HBLK1 := Lib.hid hb1
    have d1 := cell_of_row w1 w.heap.size 0 _ _ (0, 0) hb1
    simp at d1
    clear hb1
    clear hwent hR
    have hsz : (strOf ty).size ≤ 40000 := by rw [Lib.size_eq, strOf_data]; exact HTY.out
    have HTN := Lib.hid (takeName_no ⟨w.heap.size, 0, none⟩ (strOf ty) w1 d1 hsz hq)
    clear hsz
    go_wp2_with fail
    refine HTN.out.mono ?_
    rintro e2 w2 ⟨rfl, hbl⟩
    have HNO := Lib.hid (HEQ1.out.trans (adv_none _))
    have HCH := Lib.hid (HW1.out.2.2.trans (Chg.of_below (P := fun _ => False) hbl) (fun _ _ e => e.elim))
    clear hbl
    unfold boom
    go_wp2
    refine ⟨rfl, ?_⟩
    rw [HNO.out]
    exact ⟨rfl, HCH.out⟩
theorem call_any {w0 w : World} {Bc Ba B : Nat} {u : Value} {T : List (List UInt8)} (hb : Below B w0 w) (hB : B ≤ w.heap.size) (hp : PenAt w Bc Ba B u T) (ty nm : List UInt8) (hty : ty.length ≤ 40000) (hnm : nm.length ≤ 40000) (es : List Ex) {V : Value} (hr : Reads w0 B es V) (D : Int) (hD0 : 0 ≤ D) (hD : D ≤ 100) :
    Calls Tryd.prog 134 #[penV Bc Ba, .string (strOf ty), .string (strOf nm), V, .int .i64 D] w (PenPost w Bc Ba B u (adv T (callC ty nm es D))) := by
  by_cases h0 : ty = []
  · exact call_none hb hB hp ty nm hty hnm es hr D hD0 hD h0
  · cases hq : nameB ty with
    | true => exact call_yes hb hB hp ty nm hty hnm es hr D hD0 hD h0 hq
    | false => exact call_no hb hB hp ty nm hty hnm es hr D hD0 hD h0 hq

end Go.Proofs.YtmbkjabjcphkbaaDoor
end
section
/- The walks of a statement, kind by kind. -/
set_option linter.unusedVariables false
namespace Go.Proofs.YtmbkjabjcphkbaaDoor
open Go.RowKit

set_option maxRecDepth 100000 in
set_option maxHeartbeats 4000000 in
theorem stmt_10_yes {w0 w : World} {Bc Ba B : Nat} {u : Value} {T : List (List UInt8)} {p : Int} {nm ty : List UInt8} {V bv ev : Value} {ex : List Ex} {bd el : List Sm} {d : Int} (hb : Below B w0 w) (hB : B ≤ w.heap.size) (hp : PenAt w Bc Ba B u T) (hd0 : 0 ≤ d) (hd : d ≤ 24) (hr : Reads w0 B ex V) (hnl : nm.length ≤ 40000) (htl : ty.length ≤ 40000)
    (hbd : WritesB w0 B bd bv) (hel : WritesB w0 B el ev) (hbs : ∃ A c, bv = .slice A bd.length c) (hes : ∃ A c, ev = .slice A el.length c) (hq : nameB nm = true) :
    Calls Tryd.prog 116 #[penV Bc Ba, .agg #[.int .i64 10, .int .i64 p, .string (strOf nm), .string (strOf ty), V, bv, ev], .int .i64 d] w (PenPost w Bc Ba B u (adv T (penS (.mk 10 p nm ty ex bd el) d))) := by
  have hmf : ∀ (fn : Fn) (first cap : Array Value) (w : World), (Instr.makeFunc fn first cap).run Tryd.prog w = .ok (.func fn first cap) w := fun _ _ _ _ => rfl
  obtain ⟨A, c, hrv, _, _, _⟩ := id hr
  subst hrv
  obtain ⟨Ab, cb, hbv⟩ := hbs
  subst hbv
  obtain ⟨Ae, ce, hev⟩ := hes
  subst hev
  obtain ⟨X, hX⟩ : ∃ X : World, X = ((w.alloc (.cells #[penV Bc Ba] 63)).alloc (.cells #[.int .i64 10, .int .i64 p, .string (strOf nm), .string (strOf ty), .slice A ex.length c, .slice Ab bd.length cb, .slice Ae el.length ce] 55)).alloc (.cells #[.int .i64 d] 3) := ⟨_, rfl⟩
  obtain ⟨g, hg⟩ : ∃ g, g = w.heap.size := ⟨_, rfl⟩
  obtain ⟨hf, hsz⟩ := st_new hX hg
  have hw : Went w Bc Ba B u X u T := by rw [hX]; exact (((Went.refl hp).alloc _).alloc _).alloc _
  have e0 := hf.sm.c0
  have hg1 : Bc < g := by rw [hg]; exact lt_of_heap hp.cnt
  have hg2 : Ba < g := by rw [hg]; exact lt_of_heap hp.buf
  have hBg : B ≤ g := by rw [hg]; exact hB
  have hwg : w.heap.size ≤ g := by rw [hg]; exact Nat.le_refl _
  have hd50 : d ≤ 50 := by omega
  have HEQ := Lib.hid (congrArg (adv T) ((penS_10 p nm ty ex bd el d).trans (need_cat_yes hq _)))
  have HXS : Hid (g + 1 + 1 + 1 = X.heap.size) := Lib.hid (by rw [hsz])
  have HX := Lib.hid hX
  have HG := Lib.hid hg
  have HF := Lib.hid hf
  have HW := Lib.hid hw
  have HR := Lib.hid hr
  clear hX hg hf hw hsz hr
  unfold penV at HX ⊢
  go_enter Tryd.func116, Tryd.ntmps116
  have hwr : IntKind.i64.wrap (d + 1) = d + 1 := IntWalk.i64_in _ ⟨by omega, by omega⟩
  have pc1 := (HF.out).pc
  have dc1 := (HF.out).dc
  go_wp2_with fail
  rw [← HX.out, ← HG.out]
  refine wp_region_held_drew (S := fun w' => w'.cell? ⟨g, 0, none⟩ = some (.func (.func 47) #[] #[.pointer (some ⟨Bc, 0, none⟩), .pointer (some ⟨Ba, 0, none⟩)]) ∧ w'.cell? ⟨g + 1 + 1, 0, none⟩ = some (.int .i64 d)) (by kernel_rfl) ⟨pc1, dc1⟩ (fun hHeld => ?_)
  have HWd2 := Lib.hid ((HW.out).drew)
  have HFd2 := Lib.hid ((HF.out).drew)
  refine wpAnyH_take (i := 0) (oi := _) (v := .func (.func 47) #[] #[.pointer (some ⟨Bc, 0, none⟩), .pointer (some ⟨Ba, 0, none⟩)]) rfl (by kernel_rfl) (by kernel_rfl) (by kernel_rfl) (fun _ _ _ h => h) (Or.inl ⟨by rfl, fun w hS => ?_⟩) hHeld ?_
  · obtain ⟨h1, h2⟩ := hS
    go_simp
  simp only [Act.put]
  refine wpAnyH_take (i := 1) (oi := _) (v := .pointer (some ⟨g + 1, 3, none⟩)) rfl (by kernel_rfl) (by kernel_rfl) (by kernel_rfl) (fun _ _ _ h => h) (Or.inl ⟨by rfl, fun w hS => ?_⟩) hHeld ?_
  · obtain ⟨h1, h2⟩ := hS
    go_simp
  simp only [Act.put]
  refine wpAnyH_take (i := 3) (oi := _) (v := .func (.func 131) #[] #[.pointer (some ⟨g + 1, 0, none⟩)]) rfl (by kernel_rfl) (by kernel_rfl) (by kernel_rfl) (fun _ _ _ h => h) (Or.inl ⟨by rfl, fun w hS => ?_⟩) hHeld ?_
  · obtain ⟨h1, h2⟩ := hS
    go_simp
  simp only [Act.put]
  refine wpAnyH_take (i := 5) (oi := _) (v := .pointer (some ⟨g + 1, 4, none⟩)) rfl (by kernel_rfl) (by kernel_rfl) (by kernel_rfl) (fun _ _ _ h => h) (Or.inl ⟨by rfl, fun w hS => ?_⟩) hHeld ?_
  · obtain ⟨h1, h2⟩ := hS
    go_simp
  simp only [Act.put]
  refine wpAnyH_take (i := 7) (oi := _) (v := .int .i64 d) rfl (by kernel_rfl) (by kernel_rfl) (by kernel_rfl) (fun _ _ _ h => h) (Or.inl ⟨by rfl, fun w hS => ?_⟩) hHeld ?_
  · obtain ⟨h1, h2⟩ := hS
    go_simp
  simp only [Act.put]
  refine wpAnyH_take (i := 8) (oi := _) (v := .int .i64 (d + 1)) rfl (by kernel_rfl) (by kernel_rfl) (by kernel_rfl) (fun _ _ _ h => h) (Or.inl ⟨by rfl, fun w hS => ?_⟩) hHeld ?_
  · obtain ⟨h1, h2⟩ := hS
    go_simp
  simp only [Act.put]
  refine wpAnyH_ready (rs := [2]) (by kernel_rfl) (by simp) ?_
  refine AllReadyH.cons rfl (fun K hK => ?_) AllReadyH.nil
  go_simp
  refine (stt_take (HFd2.out)).mono ?_
  rintro e3 w3 ⟨rfl, hch, hfr⟩
  have HW3 := Lib.hid ((HWd2.out).loc (w2 := w3) (hch) (Nat.le_succ_of_le hwg) ((HFd2.out).apart (HWd2.out).1 hg1 hg2 (.inr (.inl rfl))))
  have HF3 := Lib.hid (hfr)
  clear hch hfr
  have hk4 := (HF3.out).pc
  have hj4 := (HF3.out).dc
  go_wp2_with fail
  refine hK.out _ _ ⟨hk4, hj4⟩ (fun hHeld => ?_)
  clear hK K
  refine wpAnyH_ready (rs := [4]) (by kernel_rfl) (by simp) ?_
  refine AllReadyH.cons rfl (fun K hK => ?_) AllReadyH.nil
  go_simp
  refine (stn_yes (HF3.out) hnl hq).mono ?_
  rintro e5 w5 ⟨rfl, hch, hfr⟩
  have HW5 := Lib.hid ((HW3.out).loc (w2 := w5) (hch) (Nat.le_succ_of_le hwg) ((HF3.out).apart (HW3.out).1 hg1 hg2 (.inr (.inl rfl))))
  have HF5 := Lib.hid (hfr)
  clear hch hfr
  have hk6 := (HF5.out).pc
  have hj6 := (HF5.out).dc
  go_wp2_with fail
  refine hK.out _ _ ⟨hk6, hj6⟩ (fun hHeld => ?_)
  clear hK K
  refine wpAnyH_ready (rs := [6]) (by kernel_rfl) (by simp) ?_
  refine AllReadyH.cons rfl (fun K hK => ?_) AllReadyH.nil
  go_simp
  refine (stx_take (HF5.out)).mono ?_
  rintro e7 w7 ⟨rfl, hch, hfr⟩
  have HW7 := Lib.hid ((HW5.out).loc (w2 := w7) (hch) (Nat.le_succ_of_le hwg) ((HF5.out).apart (HW5.out).1 hg1 hg2 (.inr (.inl rfl))))
  have HF7 := Lib.hid (hfr)
  clear hch hfr
  have hk8 := (HF7.out).pc
  have hj8 := (HF7.out).dc
  go_wp2_with fail
  refine hK.out _ _ ⟨hk8, hj8⟩ (fun hHeld => ?_)
  clear hK K
  have HCL := Lib.hid (call_any (hb.trans ((HW7.out).2.2.below hB (fun x hx => (hp.mine hx).1))) (Nat.le_trans hB (HW7.out).2.2.size) (HW7.out).1 ty nm htl hnl ex HR.out (d + 1) (by omega) (by omega))
  unfold penV at HCL
  refine wpAnyH_ready (rs := [9]) (by kernel_rfl) (by simp) ?_
  refine AllReadyH.cons rfl (fun K hK => ?_) AllReadyH.nil
  go_simp
  refine (HCL.out).mono ?_
  rintro e9 w9 hpost
  cases hR : adv T (callC ty nm ex (d + 1)) with
  | none =>
    rw [hR] at hpost
    obtain ⟨rfl, hch⟩ := hpost
    have HNO := Lib.hid ((HEQ.out).trans (adv_cat_none hR _))
    have HCH := Lib.hid ((HW7.out).fell hch)
    clear hR hch
    unfold boom
    go_wp2
    refine ⟨rfl, ?_⟩
    rw [HNO.out]
    exact ⟨rfl, HCH.out⟩
  | some T9 =>
    rw [hR] at hpost
    obtain ⟨rfl, u9, hwent⟩ := hpost
    have HW9 := Lib.hid ((HW7.out).trans hwent)
    have HF9 := Lib.hid ((HF7.out).went (HW7.out).1 hg1 hg2 hwent)
    have HEQ9 := Lib.hid ((HEQ.out).trans (adv_cat_some hR _))
    clear hwent hR
    have hk10 := (HF9.out).pc
    have hj10 := (HF9.out).dc
    go_wp2_with fail
    refine hK.out _ _ ⟨hk10, hj10⟩ (fun hHeld => ?_)
    clear hK K
    refine wpAnyH_done (by kernel_rfl) ?_ _
    have c2 := (HF9.out).sm.c2
    have c3 := (HF9.out).sm.c3
    have c4 := (HF9.out).sm.c4
    have c5 := (HF9.out).sm.c5
    have c6 := (HF9.out).sm.c6
    have hz0 : (strOf []).toList = [] := strOf_toList []
    obtain ⟨nb, hnb⟩ : ∃ m, m = bd.length := ⟨_, rfl⟩
    rw [← hnb] at c5
    obtain ⟨ne, hne⟩ : ∃ m, m = el.length := ⟨_, rfl⟩
    rw [← hne] at c6
    by_cases hbl0 : bd.length = 0
    case neg =>
      have HNO := Lib.hid ((HEQ9.out).trans (show adv T9 (need _ (some [])) = none from by rw [need_no (fun h => hbl0 h.1)]; rfl))
      have hl1 : (nb == 0) = false := by rw [beq_eq_false_iff_ne]; omega
      have hl2 : ((nb : Int) == 0) = false := by rw [beq_eq_false_iff_ne]; omega
      clear hnb hne hbl0
      go_wp2_with fail
      refine (must_no _).mono ?_
      rintro e9 w9 ⟨rfl, rfl⟩
      unfold boom
      go_wp2
      refine ⟨rfl, ?_⟩
      rw [HNO.out]
      exact ⟨rfl, (HW9.out).2.2⟩
    by_cases hel0 : el.length = 0
    case neg =>
      have HNO := Lib.hid ((HEQ9.out).trans (show adv T9 (need _ (some [])) = none from by rw [need_no (fun h => hel0 h.2)]; rfl))
      obtain rfl : nb = 0 := by omega
      have hl1 : (ne == 0) = false := by rw [beq_eq_false_iff_ne]; omega
      have hl2 : ((ne : Int) == 0) = false := by rw [beq_eq_false_iff_ne]; omega
      clear hnb hne hbl0 hel0
      go_wp2_with fail
      refine (must_no _).mono ?_
      rintro e9 w9 ⟨rfl, rfl⟩
      unfold boom
      go_wp2
      refine ⟨rfl, ?_⟩
      rw [HNO.out]
      exact ⟨rfl, (HW9.out).2.2⟩
    have HFIN := Lib.hid ((HEQ9.out).trans (show adv T9 (need _ (some [])) = some T9 from by rw [need_yes ⟨hbl0, hel0⟩]; exact adv_nil (HW9.out).1.fit))
    obtain rfl : nb = 0 := by omega
    obtain rfl : ne = 0 := by omega
    clear hnb hne hbl0 hel0
    go_wp2_with fail
    refine (must_yes _).mono ?_
    rintro e9 w9 ⟨rfl, rfl⟩
    go_wp2
    go_end0
    rw [HFIN.out]
    exact ⟨rfl, _, HW9.out⟩

set_option maxRecDepth 100000 in
set_option maxHeartbeats 4000000 in
theorem stmt_10_no {w0 w : World} {Bc Ba B : Nat} {u : Value} {T : List (List UInt8)} {p : Int} {nm ty : List UInt8} {V bv ev : Value} {ex : List Ex} {bd el : List Sm} {d : Int} (hb : Below B w0 w) (hB : B ≤ w.heap.size) (hp : PenAt w Bc Ba B u T) (hd0 : 0 ≤ d) (hd : d ≤ 24) (hr : Reads w0 B ex V) (hnl : nm.length ≤ 40000) (htl : ty.length ≤ 40000)
    (hbd : WritesB w0 B bd bv) (hel : WritesB w0 B el ev) (hbs : ∃ A c, bv = .slice A bd.length c) (hes : ∃ A c, ev = .slice A el.length c) (hq : ¬ nameB nm = true) :
    Calls Tryd.prog 116 #[penV Bc Ba, .agg #[.int .i64 10, .int .i64 p, .string (strOf nm), .string (strOf ty), V, bv, ev], .int .i64 d] w (PenPost w Bc Ba B u (adv T (penS (.mk 10 p nm ty ex bd el) d))) := by
  have hmf : ∀ (fn : Fn) (first cap : Array Value) (w : World), (Instr.makeFunc fn first cap).run Tryd.prog w = .ok (.func fn first cap) w := fun _ _ _ _ => rfl
  obtain ⟨A, c, hrv, _, _, _⟩ := id hr
  subst hrv
  obtain ⟨Ab, cb, hbv⟩ := hbs
  subst hbv
  obtain ⟨Ae, ce, hev⟩ := hes
  subst hev
  obtain ⟨X, hX⟩ : ∃ X : World, X = ((w.alloc (.cells #[penV Bc Ba] 63)).alloc (.cells #[.int .i64 10, .int .i64 p, .string (strOf nm), .string (strOf ty), .slice A ex.length c, .slice Ab bd.length cb, .slice Ae el.length ce] 55)).alloc (.cells #[.int .i64 d] 3) := ⟨_, rfl⟩
  obtain ⟨g, hg⟩ : ∃ g, g = w.heap.size := ⟨_, rfl⟩
  obtain ⟨hf, hsz⟩ := st_new hX hg
  have hw : Went w Bc Ba B u X u T := by rw [hX]; exact (((Went.refl hp).alloc _).alloc _).alloc _
  have e0 := hf.sm.c0
  have hg1 : Bc < g := by rw [hg]; exact lt_of_heap hp.cnt
  have hg2 : Ba < g := by rw [hg]; exact lt_of_heap hp.buf
  have hBg : B ≤ g := by rw [hg]; exact hB
  have hwg : w.heap.size ≤ g := by rw [hg]; exact Nat.le_refl _
  have hd50 : d ≤ 50 := by omega
  have HEQ := Lib.hid (congrArg (adv T) ((penS_10 p nm ty ex bd el d).trans (need_cat_no hq _)))
  have HXS : Hid (g + 1 + 1 + 1 = X.heap.size) := Lib.hid (by rw [hsz])
  have HX := Lib.hid hX
  have HG := Lib.hid hg
  have HF := Lib.hid hf
  have HW := Lib.hid hw
  have HR := Lib.hid hr
  clear hX hg hf hw hsz hr
  unfold penV at HX ⊢
  go_enter Tryd.func116, Tryd.ntmps116
  have HNO := HEQ
  have hwr : IntKind.i64.wrap (d + 1) = d + 1 := IntWalk.i64_in _ ⟨by omega, by omega⟩
  have pc1 := (HF.out).pc
  have dc1 := (HF.out).dc
  go_wp2_with fail
  rw [← HX.out, ← HG.out]
  refine wp_region_held_drew (S := fun w' => w'.cell? ⟨g, 0, none⟩ = some (.func (.func 47) #[] #[.pointer (some ⟨Bc, 0, none⟩), .pointer (some ⟨Ba, 0, none⟩)]) ∧ w'.cell? ⟨g + 1 + 1, 0, none⟩ = some (.int .i64 d)) (by kernel_rfl) ⟨pc1, dc1⟩ (fun hHeld => ?_)
  have HWd2 := Lib.hid ((HW.out).drew)
  have HFd2 := Lib.hid ((HF.out).drew)
  refine wpAnyH_take (i := 0) (oi := _) (v := .func (.func 47) #[] #[.pointer (some ⟨Bc, 0, none⟩), .pointer (some ⟨Ba, 0, none⟩)]) rfl (by kernel_rfl) (by kernel_rfl) (by kernel_rfl) (fun _ _ _ h => h) (Or.inl ⟨by rfl, fun w hS => ?_⟩) hHeld ?_
  · obtain ⟨h1, h2⟩ := hS
    go_simp
  simp only [Act.put]
  refine wpAnyH_take (i := 1) (oi := _) (v := .pointer (some ⟨g + 1, 3, none⟩)) rfl (by kernel_rfl) (by kernel_rfl) (by kernel_rfl) (fun _ _ _ h => h) (Or.inl ⟨by rfl, fun w hS => ?_⟩) hHeld ?_
  · obtain ⟨h1, h2⟩ := hS
    go_simp
  simp only [Act.put]
  refine wpAnyH_take (i := 3) (oi := _) (v := .func (.func 131) #[] #[.pointer (some ⟨g + 1, 0, none⟩)]) rfl (by kernel_rfl) (by kernel_rfl) (by kernel_rfl) (fun _ _ _ h => h) (Or.inl ⟨by rfl, fun w hS => ?_⟩) hHeld ?_
  · obtain ⟨h1, h2⟩ := hS
    go_simp
  simp only [Act.put]
  refine wpAnyH_take (i := 5) (oi := _) (v := .pointer (some ⟨g + 1, 4, none⟩)) rfl (by kernel_rfl) (by kernel_rfl) (by kernel_rfl) (fun _ _ _ h => h) (Or.inl ⟨by rfl, fun w hS => ?_⟩) hHeld ?_
  · obtain ⟨h1, h2⟩ := hS
    go_simp
  simp only [Act.put]
  refine wpAnyH_take (i := 7) (oi := _) (v := .int .i64 d) rfl (by kernel_rfl) (by kernel_rfl) (by kernel_rfl) (fun _ _ _ h => h) (Or.inl ⟨by rfl, fun w hS => ?_⟩) hHeld ?_
  · obtain ⟨h1, h2⟩ := hS
    go_simp
  simp only [Act.put]
  refine wpAnyH_take (i := 8) (oi := _) (v := .int .i64 (d + 1)) rfl (by kernel_rfl) (by kernel_rfl) (by kernel_rfl) (fun _ _ _ h => h) (Or.inl ⟨by rfl, fun w hS => ?_⟩) hHeld ?_
  · obtain ⟨h1, h2⟩ := hS
    go_simp
  simp only [Act.put]
  refine wpAnyH_ready (rs := [2]) (by kernel_rfl) (by simp) ?_
  refine AllReadyH.cons rfl (fun K hK => ?_) AllReadyH.nil
  go_simp
  refine (stt_take (HFd2.out)).mono ?_
  rintro e3 w3 ⟨rfl, hch, hfr⟩
  have HW3 := Lib.hid ((HWd2.out).loc (w2 := w3) (hch) (Nat.le_succ_of_le hwg) ((HFd2.out).apart (HWd2.out).1 hg1 hg2 (.inr (.inl rfl))))
  have HF3 := Lib.hid (hfr)
  clear hch hfr
  have hk4 := (HF3.out).pc
  have hj4 := (HF3.out).dc
  go_wp2_with fail
  refine hK.out _ _ ⟨hk4, hj4⟩ (fun hHeld => ?_)
  clear hK K
  refine wpAnyH_ready (rs := [4]) (by kernel_rfl) (by simp) ?_
  refine AllReadyH.cons rfl (fun K hK => ?_) AllReadyH.nil
  go_simp
  refine (stn_no (HF3.out) hnl (by simpa using hq)).mono ?_
  rintro e5 w5 ⟨rfl, hbl⟩
  have HCH := Lib.hid ((HW3.out).2.2.trans (Chg.of_below (P := fun _ => False) hbl) (fun _ _ e => e.elim))
  unfold boom
  go_wp2
  refine ⟨rfl, ?_⟩
  rw [HNO.out]
  exact ⟨rfl, HCH.out⟩

end Go.Proofs.YtmbkjabjcphkbaaDoor
end
section
/- The contract of a statement's writer and of a block's. -/
set_option linter.unusedVariables false
namespace Go.Proofs.YtmbkjabjcphkbaaDoor
open Go.RowKit

/-- the statement s, whose parts are the slices E, b, l, is written wherever the blocks below B are as in w0 -/
def WritesS (w0 : World) (B : Nat) (s : Sm) (E b l : Value) : Prop :=
  ∀ (w : World) (Bc Ba : Nat) (u : Value) (T : List (List UInt8)) (d : Int), Below B w0 w → B ≤ w.heap.size → PenAt w Bc Ba B u T → 0 ≤ d → d ≤ 24 →
    Calls Tryd.prog 116 #[penV Bc Ba, .agg #[.int .i64 s.kind, .int .i64 s.pl, .string (strOf s.name), .string (strOf s.type), E, b, l], .int .i64 d] w (PenPost w Bc Ba B u (adv T (penS s d)))
theorem stmt_step {w0 : World} {B : Nat} (s : Sm) {E b l : Value} (hr : Reads w0 B s.exprs E) (hn : s.name.length ≤ 40000) (ht : s.type.length ≤ 40000) (hb : WritesB w0 B s.body b) (hl : WritesB w0 B s.els l)
    (hbs : ∃ A c, b = .slice A s.body.length c) (hls : ∃ A c, l = .slice A s.els.length c) : WritesS w0 B s E b l := by
  obtain ⟨k, p, nm, ty, ex, bd, el⟩ := s
  intro w Bc Ba u T d hbw hB hp hd0 hd
  have hr : Reads w0 B ex E := hr
  have hn : nm.length ≤ 40000 := hn
  have ht : ty.length ≤ 40000 := ht
  have hb : WritesB w0 B bd b := hb
  have hl : WritesB w0 B el l := hl
  have hbs : ∃ A c, b = .slice A bd.length c := hbs
  have hls : ∃ A c, l = .slice A el.length c := hls
  show Calls Tryd.prog 116 #[penV Bc Ba, .agg #[.int .i64 k, .int .i64 p, .string (strOf nm), .string (strOf ty), E, b, l], .int .i64 d] w (PenPost w Bc Ba B u (adv T (penS (.mk k p nm ty ex bd el) d)))
  by_cases k1 : k = 1
  · subst k1
    by_cases hq : nameB nm = true
    · exact stmt_1_yes hbw hB hp hd0 hd hr hn ht hb hl hbs hls hq
    · exact stmt_1_no hbw hB hp hd0 hd hr hn ht hb hl hbs hls hq
  by_cases k2 : k = 2
  · subst k2
    by_cases hz : ex.length = 0
    · exact stmt_2_none hbw hB hp hd0 hd hr hn ht hb hl hbs hls hz
    · by_cases hq : placeB ex
      · exact stmt_2_yes hbw hB hp hd0 hd hr hn ht hb hl hbs hls (by omega) hq
      · exact stmt_2_no hbw hB hp hd0 hd hr hn ht hb hl hbs hls (by omega) hq
  by_cases k3 : k = 3
  · subst k3
    by_cases hq : el.length = 0
    · exact stmt_3_a hbw hB hp hd0 hd hr hn ht hb hl hbs hls hq
    · exact stmt_3_b hbw hB hp hd0 hd hr hn ht hb hl hbs hls hq
  by_cases k4 : k = 4
  · subst k4
    exact stmt_4 hbw hB hp hd0 hd hr hn ht hb hl hbs hls
  by_cases k5 : k = 5
  · subst k5
    by_cases hq : nameB nm = true
    · exact stmt_5_yes hbw hB hp hd0 hd hr hn ht hb hl hbs hls hq
    · exact stmt_5_no hbw hB hp hd0 hd hr hn ht hb hl hbs hls hq
  by_cases k6 : k = 6
  · subst k6
    by_cases hq : nameB nm = true
    · exact stmt_6_yes hbw hB hp hd0 hd hr hn ht hb hl hbs hls hq
    · exact stmt_6_no hbw hB hp hd0 hd hr hn ht hb hl hbs hls hq
  by_cases k7 : k = 7
  · subst k7
    by_cases hq : nameB nm = true
    · exact stmt_7_yes hbw hB hp hd0 hd hr hn ht hb hl hbs hls hq
    · exact stmt_7_no hbw hB hp hd0 hd hr hn ht hb hl hbs hls hq
  by_cases k8 : k = 8
  · subst k8
    by_cases hq : nameB nm = true
    · by_cases hq2 : nameB ty = true
      · exact stmt_8_yes hbw hB hp hd0 hd hr hn ht hb hl hbs hls hq hq2
      · exact stmt_8_no2 hbw hB hp hd0 hd hr hn ht hb hl hbs hls hq hq2
    · exact stmt_8_no1 hbw hB hp hd0 hd hr hn ht hb hl hbs hls hq
  by_cases k9 : k = 9
  · subst k9
    by_cases hq : nameB nm = true
    · exact stmt_9_yes hbw hB hp hd0 hd hr hn ht hb hl hbs hls hq
    · exact stmt_9_no hbw hB hp hd0 hd hr hn ht hb hl hbs hls hq
  by_cases k10 : k = 10
  · subst k10
    by_cases hq : nameB nm = true
    · exact stmt_10_yes hbw hB hp hd0 hd hr hn ht hb hl hbs hls hq
    · exact stmt_10_no hbw hB hp hd0 hd hr hn ht hb hl hbs hls hq
  by_cases k11 : k = 11
  · subst k11
    by_cases hq : ex.length = 0
    · exact stmt_11_a hbw hB hp hd0 hd hr hn ht hb hl hbs hls hq
    · exact stmt_11_b hbw hB hp hd0 hd hr hn ht hb hl hbs hls hq
  exact stmt_else hbw hB hp hd0 hd hr hn ht hb hl hbs hls (by omega)
/-- the statements ss lie at the slice V, and each is written -/
def ReadsS (w0 : World) (B : Nat) (ss : List Sm) (V : Value) : Prop :=
  ∃ A c, V = .slice A ss.length c ∧ ss.length ≤ c ∧ c ≤ 9223372036854775807 ∧ ∀ (j : Nat) (hj : j < ss.length), ∃ b off A1 n1 c1 A2 n2 c2 A3 n3 c3, A = some ⟨b, off, none⟩ ∧ b < B ∧
    w0.cell? ⟨b, off + j * 7, none⟩ = some (.int .i64 ss[j].kind) ∧ w0.cell? ⟨b, off + j * 7 + 1, none⟩ = some (.int .i64 ss[j].pl) ∧ w0.cell? ⟨b, off + j * 7 + 2, none⟩ = some (.string (strOf ss[j].name)) ∧
    w0.cell? ⟨b, off + j * 7 + 3, none⟩ = some (.string (strOf ss[j].type)) ∧ w0.cell? ⟨b, off + j * 7 + 4, none⟩ = some (.slice A1 n1 c1) ∧ w0.cell? ⟨b, off + j * 7 + 5, none⟩ = some (.slice A2 n2 c2) ∧
    w0.cell? ⟨b, off + j * 7 + 6, none⟩ = some (.slice A3 n3 c3) ∧ WritesS w0 B ss[j] (.slice A1 n1 c1) (.slice A2 n2 c2) (.slice A3 n3 c3)
theorem penSs_drop {ss : List Sm} {j : Nat} (h : j < ss.length) (d : Int) : penSs (ss.drop j) d = cat (penS ss[j] d) (penSs (ss.drop (j + 1)) d) := by
  rw [List.drop_eq_getElem_cons h, penSs]
set_option maxRecDepth 100000 in
set_option maxHeartbeats 2000000 in
theorem block_step {w0 : World} {B : Nat} {ss : List Sm} {V : Value} (hrs : ReadsS w0 B ss V) : WritesB w0 B ss V := by
  intro w Bc Ba u T d hb hB hp hd0 hd9
  obtain ⟨A, c, rfl, hc, hM, hA⟩ := hrs
  obtain ⟨n, hn⟩ : ∃ n, n = ss.length := ⟨_, rfl⟩
  rw [← hn] at hc ⊢
  by_cases h4 : d ≤ 24
  · have h4' : decide (d ≤ 24) = true := by rw [decide_eq_true_eq]; exact h4
    have HEQ : Hid (adv T (penB ss d) = adv T (cat (some [[123]]) (cat (penSs ss d) (some [[125]])))) := Lib.hid (by unfold penB inBlock; rw [if_pos h4])
    have HN := Lib.hid hn
    have HA := Lib.hid hA
    have HP := Lib.hid hp
    have HBB := Lib.hid hb
    unfold penV
    clear hn hA hp hb
    go_enter Tryd.func90, Tryd.ntmps90
    go_wp2_with fail
    refine (must_yes _).mono ?_
    rintro e w1 ⟨rfl, rfl⟩
    go_wp2_with fail
    refine (put_new (Went.refl HP.out) hB [[123]] (by simp) (by simp)).mono ?_
    rintro e1 w1 hpost
    cases hR : adv T (some [[123]]) with
    | none =>
      rw [hR] at hpost
      obtain ⟨rfl, hch⟩ := hpost
      have HNO := Lib.hid (HEQ.out.trans (adv_cat_none hR _))
      clear hR
      unfold boom
      go_wp2
      refine ⟨rfl, ?_⟩
      rw [HNO.out]
      exact ⟨rfl, hch⟩
    | some T1 =>
      rw [hR] at hpost
      obtain ⟨rfl, u1, hwent⟩ := hpost
      have HW1 := Lib.hid hwent
      have HEQ1 := Lib.hid (HEQ.out.trans (adv_cat_some hR _))
      clear hwent hR
      go_wp2_with fail
      go_loopw [16] (fun i wr => ∃ (j : Nat) (u' : Value) (T' : List (List UInt8)), j ≤ n ∧ i = .int .i64 j ∧ Hid (Went w Bc Ba B u wr u' T') ∧ Hid (adv T (penB ss d) = adv T' (cat (penSs (ss.drop j) d) (some [[125]])))) (fun i _ => n - (intOf i).toNat)
      case atStart => exact ⟨0, u1, T1, Nat.zero_le _, rfl, HW1, HEQ1⟩
      case round =>
        obtain ⟨wo, rfl⟩ : ∃ wo : World, wo = wr := ⟨_, rfl⟩
        obtain ⟨j, u2, T2, hj, rfl, HW2, HEQ2⟩ := hrel
        by_cases hlt : j < n
        · have hjt : j < ss.length := by rw [← HN.out]; exact hlt
          obtain ⟨b, off, A1, n1, c1, A2, n2, c2, A3, n3, c3, rfl, hbB, r0, r1, r2, r3, r4, r5, r6, hWr⟩ := HA.out j hjt
          have hbw : Below B w0 wo := HBB.out.trans (HW2.out.2.2.below hB (fun x hx => (HP.out.mine hx).1))
          have up : ∀ {i : Nat} {v : Value}, w0.cell? ⟨b, i, none⟩ = some v → wo.cell? ⟨b, i, none⟩ = some v := fun h => (hbw.cell hbB).trans h
          have r0 := up r0
          have r1 := up r1
          have r2 := up r2
          have r3 := up r3
          have r4 := up r4
          have r5 := up r5
          have r6 := up r6
          have hdr := penSs_drop hjt d
          obtain ⟨E, hE⟩ : ∃ E, E = ss[j] := ⟨_, rfl⟩
          rw [← hE] at r0 r1 r2 r3 hWr hdr
          clear up hE
          obtain ⟨Y, hY⟩ : ∃ Y : World, Y = wo.alloc (.cells #[.int .i64 E.kind, .int .i64 E.pl, .string (strOf E.name), .string (strOf E.type), .slice A1 n1 c1, .slice A2 n2 c2, .slice A3 n3 c3] 55) := ⟨_, rfl⟩
          have hwy : Went w Bc Ba B u Y u2 T2 := by rw [hY]; exact HW2.out.alloc _
          have hby : Below B w0 Y := by rw [hY]; exact hbw.alloc (Nat.le_trans hB HW2.out.2.2.size) _
          have hcall := hWr Y Bc Ba u2 T2 d hby (Nat.le_trans hB hwy.2.2.size) hwy.1 hd0 h4
          have HEQ3 : Hid (adv T (penB ss d) = adv T2 (cat (penS E d) (cat (penSs (ss.drop (j + 1)) d) (some [[125]])))) := Lib.hid (by rw [HEQ2.out, hdr, cat_assoc])
          have HWY := Lib.hid hwy
          have HY := Lib.hid hY
          have HCALL := Lib.hid hcall
          clear hwy hY hcall hdr hWr hbw hby
          unfold penV at HCALL
          go_wp2_with fail
          rw [← HY.out]
          refine HCALL.out.mono ?_
          rintro e4 w4 hpost
          cases hR : adv T2 (penS E d) with
          | none =>
            rw [hR] at hpost
            obtain ⟨rfl, hch⟩ := hpost
            have HNO := Lib.hid (HEQ3.out.trans (adv_cat_none hR _))
            have HCH := Lib.hid (HWY.out.fell hch)
            clear hR hch
            unfold boom
            go_wp2
            refine ⟨rfl, ?_⟩
            rw [HNO.out]
            exact ⟨rfl, HCH.out⟩
          | some T4 =>
            rw [hR] at hpost
            obtain ⟨rfl, u4, hwent⟩ := hpost
            have HW4 := Lib.hid (HWY.out.trans hwent)
            have HEQ5 := Lib.hid (HEQ3.out.trans (adv_cat_some hR _))
            clear hwent hR
            go_wp2_with fail
            go_roundw
            case rel => exact ⟨j + 1, u4, T4, by omega, by go_num, HW4, HEQ5⟩
            case measure => simp [intOf]; omega
        · have hjn : j = n := by omega
          subst hjn
          have hdn : ss.drop j = [] := List.drop_of_length_le (by rw [HN.out]; exact Nat.le_refl _)
          have HEQ3 : Hid (adv T (penB ss d) = adv T2 (some [[125]])) := Lib.hid (by rw [HEQ2.out, hdn, penSs, cat_nil_l])
          clear hdn
          go_wp2_with fail
          refine (put_new (Went.refl HW2.out.1) (Nat.le_trans hB HW2.out.2.2.size) [[125]] (by simp) (by simp)).mono ?_
          rintro e4 w4 hpost
          cases hR : adv T2 (some [[125]]) with
          | none =>
            rw [hR] at hpost
            obtain ⟨rfl, hch⟩ := hpost
            have HNO := Lib.hid (HEQ3.out.trans hR)
            have HCH := Lib.hid (HW2.out.fell hch)
            clear hR hch
            unfold boom
            go_wp2
            refine ⟨rfl, ?_⟩
            rw [HNO.out]
            exact ⟨rfl, HCH.out⟩
          | some T4 =>
            rw [hR] at hpost
            obtain ⟨rfl, u4, hwent⟩ := hpost
            have HW4 := Lib.hid (HW2.out.trans hwent)
            have HFIN := Lib.hid (HEQ3.out.trans hR)
            clear hwent hR
            go_wp2
            go_end0
            rw [HFIN.out]
            exact ⟨rfl, u4, HW4.out⟩
  · have h4' : decide (d ≤ 24) = false := by rw [decide_eq_false_iff_not]; exact h4
    have HNO : Hid (adv T (penB ss d) = none) := Lib.hid (by unfold penB inBlock; rw [if_neg h4]; rfl)
    clear hn hA hp hb
    unfold penV
    go_enter Tryd.func90, Tryd.ntmps90
    go_wp2_with fail
    refine (must_no _).mono ?_
    rintro e w1 ⟨rfl, rfl⟩
    unfold boom
    go_wp2
    refine ⟨rfl, ?_⟩
    rw [HNO.out]
    exact ⟨rfl, Chg.refl _ _⟩
theorem block_any {w0 : World} {B : Nat} (htab : Tab B w0) {ss : List Sm} {v : Value} (h : IsSms w0 (· < B) ss v) : smallSs 40000 ss → WritesB w0 B ss v := by
  induction h with
  | mk ss A c fe fb fl hc hM hA he hb hl ihb ihl =>
    intro hsm
    refine block_step ⟨A, c, rfl, hc, hM, fun j hj => ?_⟩
    obtain ⟨b, off, h1, h2, h3, h4, c0, c1, c2, c3, c4, c5, c6⟩ := hA j hj
    obtain ⟨s1, s2, _, s4, _, s5, _, s6⟩ := smallS_parts (smallSs_get hsm j hj)
    have hrd := reads_any htab (he j hj) s4
    obtain ⟨A1, k1, e1, _, _⟩ := (he j hj).slice
    obtain ⟨A2, k2, e2, _, _⟩ := (hb j hj).slice
    obtain ⟨A3, k3, e3, _, _⟩ := (hl j hj).slice
    have hw := stmt_step ss[j] hrd s1 s2 (ihb j hj s5) (ihl j hj s6) ⟨A2, k2, e2⟩ ⟨A3, k3, e3⟩
    rw [e1, e2, e3] at hw
    rw [e1] at c4
    rw [e2] at c5
    rw [e3] at c6
    exact ⟨b, off, A1, _, k1, A2, _, k2, A3, _, k3, h1, h2, c0, c1, c2, c3, c4, c5, c6, hw⟩

end Go.Proofs.YtmbkjabjcphkbaaDoor
end
