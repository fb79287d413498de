/- Wg -/
import Derived.Test.YtihjdfbdpcghdaaDoorZc9
import Derived.IntWalk
set_option linter.unusedVariables false
namespace Go.Proofs.YtihjdfbdpcghdaaDoor
open Go.RowKit
set_option maxRecDepth 100000 in
set_option maxHeartbeats 4000000 in
theorem stmt_4 {w0 w : World} {Bc Ba B : Nat} {u : Value} {T : List (List UInt8)} {p : Int} {nm ty : List UInt8} {V bv ev : Value} {ex : List Ex} {bd el : List Sm} {d : Int} (hb : Below B w0 w) (hB : B ≤ w.heap.size) (hp : PenAt w Bc Ba B u T) (hd0 : 0 ≤ d) (hd : d ≤ 24) (hr : Reads w0 B ex V) (hnl : nm.length ≤ 40000) (htl : ty.length ≤ 40000)
    (hbd : WritesB w0 B bd bv) (hel : WritesB w0 B el ev) (hbs : ∃ A c, bv = .slice A bd.length c) (hes : ∃ A c, ev = .slice A el.length c) :
    Calls Tryd.prog 62 #[penV Bc Ba, .agg #[.int .i64 4, .int .i64 p, .string (strOf nm), .string (strOf ty), V, bv, ev], .int .i64 d] w (PenPost w Bc Ba B u (adv T (penS (.mk 4 p nm ty ex bd el) d))) := by
  have hmf : ∀ (fn : Fn) (first cap : Array Value) (w : World), (Instr.makeFunc fn first cap).run Tryd.prog w = .ok (.func fn first cap) w := fun _ _ _ _ => rfl
  obtain ⟨A, c, hrv, _, _, _⟩ := id hr
  subst hrv
  obtain ⟨Ab, cb, hbv⟩ := hbs
  subst hbv
  obtain ⟨Ae, ce, hev⟩ := hes
  subst hev
  obtain ⟨X, hX⟩ : ∃ X : World, X = ((w.alloc (.cells #[penV Bc Ba] 50)).alloc (.cells #[.int .i64 4, .int .i64 p, .string (strOf nm), .string (strOf ty), .slice A ex.length c, .slice Ab bd.length cb, .slice Ae el.length ce] 39)).alloc (.cells #[.int .i64 d] 3) := ⟨_, rfl⟩
  obtain ⟨g, hg⟩ : ∃ g, g = w.heap.size := ⟨_, rfl⟩
  obtain ⟨hf, hsz⟩ := st_new hX hg
  have hw : Went w Bc Ba B u X u T := by rw [hX]; exact (((Went.refl hp).alloc _).alloc _).alloc _
  have e0 := hf.sm.c0
  have hg1 : Bc < g := by rw [hg]; exact lt_of_heap hp.cnt
  have hg2 : Ba < g := by rw [hg]; exact lt_of_heap hp.buf
  have hBg : B ≤ g := by rw [hg]; exact hB
  have hwg : w.heap.size ≤ g := by rw [hg]; exact Nat.le_refl _
  have hd50 : d ≤ 50 := by omega
  have HEQ := Lib.hid (congrArg (adv T) (penS_4 p nm ty ex bd el d))
  have HXS : Hid (g + 1 + 1 + 1 = X.heap.size) := Lib.hid (by rw [hsz])
  have HX := Lib.hid hX
  have HG := Lib.hid hg
  have HF := Lib.hid hf
  have HW := Lib.hid hw
  have HR := Lib.hid hr
  clear hX hg hf hw hsz hr
  unfold penV at HX ⊢
  go_enter Tryd.func62, Tryd.ntmps62
  have pc1 := (HF.out).pc
  have dc1 := (HF.out).dc
  go_wp2_with fail
  rw [← HX.out, ← HG.out, HXS.out]
  refine (put_new (Went.refl (HW.out).1) (Nat.le_trans hB (HW.out).2.2.size) [wordS 4] (by intro t ht; simp at ht; have := hnl; have := htl; first | (rcases ht with rfl | rfl | rfl | rfl <;> first | decide | assumption | simp) | (rcases ht with rfl | rfl | rfl <;> first | decide | assumption | simp) | (rcases ht with rfl | rfl <;> first | decide | assumption | simp) | (rw [ht]; first | decide | assumption) | (rw [ht]; simp)) (by simp)).mono ?_
  rintro e2 w2 hpost
  cases hR : adv T (some [wordS 4]) with
  | none =>
    rw [hR] at hpost
    obtain ⟨rfl, hch⟩ := hpost
    have HNO := Lib.hid ((HEQ.out).trans (adv_cat_none hR _))
    have HCH := Lib.hid ((HW.out).fell hch)
    clear hR hch
    unfold boom
    go_wp2
    refine ⟨rfl, ?_⟩
    rw [HNO.out]
    exact ⟨rfl, HCH.out⟩
  | some T2 =>
    rw [hR] at hpost
    obtain ⟨rfl, u2, hwent⟩ := hpost
    have HW2 := Lib.hid ((HW.out).trans hwent)
    have HF2 := Lib.hid ((HF.out).went (HW.out).1 hg1 hg2 hwent)
    have HEQ2 := Lib.hid ((HEQ.out).trans (adv_cat_some hR _))
    clear hwent hR
    have pc3 := (HF2.out).pc
    have dc3 := (HF2.out).dc
    go_wp2_with fail
    refine (ste_nil (hb.trans ((HW2.out).2.2.below hB (fun x hx => (hp.mine hx).1))) hBg hg1 hg2 (HW2.out).1 (HF2.out) (HR.out) hd0 hd50).mono ?_
    rintro e4 w4 hpost
    cases hR : adv T2 (argC ex d []) with
    | none =>
      rw [hR] at hpost
      obtain ⟨rfl, hch⟩ := hpost
      have HNO := Lib.hid ((HEQ2.out).trans (adv_cat_none hR _))
      have HCH := Lib.hid ((HW2.out).fell_fr hwg hch)
      clear hR hch
      unfold boom
      go_wp2
      refine ⟨rfl, ?_⟩
      rw [HNO.out]
      exact ⟨rfl, HCH.out⟩
    | some T4 =>
      rw [hR] at hpost
      obtain ⟨rfl, u4, V4, hpA, hown, hch, hfr, hrd⟩ := hpost
      obtain ⟨A4, c4, hV, _, _, _⟩ := id hrd
      subst hV
      have HW4 := Lib.hid ((HW2.out).fr hwg hpA hown hch)
      have HF4 := Lib.hid hfr
      have HR4 := Lib.hid hrd
      have HEQ4 := Lib.hid ((HEQ2.out).trans (adv_cat_some hR _))
      clear hpA hown hch hfr hrd hR
      have pc5 := (HF4.out).pc
      have dc5 := (HF4.out).dc
      go_wp2_with fail
      refine (stb5_any (hb.trans ((HW4.out).2.2.below hB (fun x hx => (hp.mine hx).1))) hBg hg1 hg2 (HW4.out).1 (HF4.out) hbd hd0 hd50).mono ?_
      rintro e6 w6 hpost
      cases hR : adv T4 (penB bd (d + 1)) with
      | none =>
        rw [hR] at hpost
        obtain ⟨rfl, hch⟩ := hpost
        have HNO := Lib.hid ((HEQ4.out).trans (adv_cat_none hR _))
        have HCH := Lib.hid ((HW4.out).fell_fr hwg hch)
        clear hR hch
        unfold boom
        go_wp2
        refine ⟨rfl, ?_⟩
        rw [HNO.out]
        exact ⟨rfl, HCH.out⟩
      | some T6 =>
        rw [hR] at hpost
        obtain ⟨rfl, u6, hpA, hown, hch, hfr⟩ := hpost
        have HW6 := Lib.hid ((HW4.out).fr hwg hpA hown hch)
        have HF6 := Lib.hid hfr
        have HEQ6 := Lib.hid ((HEQ4.out).trans (adv_cat_some hR _))
        clear hpA hown hch hfr hR
        have c2 := (HF6.out).sm.c2
        have c3 := (HF6.out).sm.c3
        have c4 := (HF6.out).sm.c4
        have c5 := (HF6.out).sm.c5
        have c6 := (HF6.out).sm.c6
        have hz0 : (strOf []).toList = [] := strOf_toList []
        obtain ⟨m, hm⟩ : ∃ m, m = (ex.tail).length := ⟨_, rfl⟩
        rw [← hm] at c4
        obtain ⟨ne, hne⟩ : ∃ m, m = el.length := ⟨_, rfl⟩
        rw [← hne] at c6
        by_cases hn : nm = []
        case neg =>
          have HNO := Lib.hid ((HEQ6.out).trans (show adv T6 (need _ (some [])) = none from by rw [need_no (fun h => hn h.1)]; rfl))
          have hs1 : ¬ (strOf nm).toList = [] := by rw [strOf_toList]; exact hn
          clear hm hne hn
          go_wp2_with fail
          refine (must_no _).mono ?_
          rintro e9 w9 ⟨rfl, rfl⟩
          unfold boom
          go_wp2
          refine ⟨rfl, ?_⟩
          rw [HNO.out]
          exact ⟨rfl, (HW6.out).2.2⟩
        by_cases ht : ty = []
        case neg =>
          have HNO := Lib.hid ((HEQ6.out).trans (show adv T6 (need _ (some [])) = none from by rw [need_no (fun h => ht h.2.1)]; rfl))
          subst hn
          have hs1 : ¬ (strOf ty).toList = [] := by rw [strOf_toList]; exact ht
          clear hm hne ht
          go_wp2_with fail
          refine (must_no _).mono ?_
          rintro e9 w9 ⟨rfl, rfl⟩
          unfold boom
          go_wp2
          refine ⟨rfl, ?_⟩
          rw [HNO.out]
          exact ⟨rfl, (HW6.out).2.2⟩
        by_cases hx : (ex.tail).length = 0
        case neg =>
          have HNO := Lib.hid ((HEQ6.out).trans (show adv T6 (need _ (some [])) = none from by rw [need_no (fun h => hx h.2.2.1)]; rfl))
          subst hn
          subst ht
          have hl1 : (m == 0) = false := by rw [beq_eq_false_iff_ne]; omega
          have hl2 : ((m : Int) == 0) = false := by rw [beq_eq_false_iff_ne]; omega
          clear hm hne hx
          go_wp2_with fail
          refine (must_no _).mono ?_
          rintro e9 w9 ⟨rfl, rfl⟩
          unfold boom
          go_wp2
          refine ⟨rfl, ?_⟩
          rw [HNO.out]
          exact ⟨rfl, (HW6.out).2.2⟩
        by_cases hel0 : el.length = 0
        case neg =>
          have HNO := Lib.hid ((HEQ6.out).trans (show adv T6 (need _ (some [])) = none from by rw [need_no (fun h => hel0 h.2.2.2)]; rfl))
          subst hn
          subst ht
          obtain rfl : m = 0 := by omega
          have hl1 : (ne == 0) = false := by rw [beq_eq_false_iff_ne]; omega
          have hl2 : ((ne : Int) == 0) = false := by rw [beq_eq_false_iff_ne]; omega
          clear hm hne hx hel0
          go_wp2_with fail
          refine (must_no _).mono ?_
          rintro e9 w9 ⟨rfl, rfl⟩
          unfold boom
          go_wp2
          refine ⟨rfl, ?_⟩
          rw [HNO.out]
          exact ⟨rfl, (HW6.out).2.2⟩
        have HFIN := Lib.hid ((HEQ6.out).trans (show adv T6 (need _ (some [])) = some T6 from by rw [need_yes ⟨hn, ht, hx, hel0⟩]; exact adv_nil (HW6.out).1.fit))
        subst hn
        subst ht
        obtain rfl : m = 0 := by omega
        obtain rfl : ne = 0 := by omega
        clear hm hne hx hel0
        go_wp2_with fail
        refine (must_yes _).mono ?_
        rintro e9 w9 ⟨rfl, rfl⟩
        go_wp2
        go_end0
        rw [HFIN.out]
        exact ⟨rfl, _, HW6.out⟩
end Go.Proofs.YtihjdfbdpcghdaaDoor
