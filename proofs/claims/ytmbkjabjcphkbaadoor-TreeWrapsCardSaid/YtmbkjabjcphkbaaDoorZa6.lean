/- Vr; Vw; Vx; Vy; Wa -/
import Derived.Test.YtmbkjabjcphkbaaDoorZa5
import Derived.Test.YtmbkjabjcphkbaaDoorZa4
import Derived.Test.YtmbkjabjcphkbaaDoorZa3
import Derived.Test.YtmbkjabjcphkbaaDoorZa2
section
/- The walks of an expression, kind by kind. -/
set_option linter.unusedVariables false
namespace Go.Proofs.YtmbkjabjcphkbaaDoor
open Go.RowKit

set_option maxRecDepth 100000 in
set_option maxHeartbeats 2000000 in
theorem expr_9_yes {w0 w : World} {Bc Ba B : Nat} {u : Value} {T : List (List UInt8)} {p n : Int} {s : List UInt8} {r : Value} {args : List Ex} {d ch : Int} (hb : Below B w0 w) (hB : B ≤ w.heap.size) (hp : PenAt w Bc Ba B u T) (hd0 : 0 ≤ d) (hd : d ≤ 24) (hc0 : 0 ≤ ch) (hr : Reads w0 B args r) (hs : s.length ≤ 40000) (hq : s = [45] ∨ s = [33]) :
    Calls Tryd.prog 28 #[penV Bc Ba, .agg #[.int .i64 9, .int .i64 p, .int .i64 n, .string (strOf s), r], .int .i64 d, .int .i64 ch] w (PenPost w Bc Ba B u (adv T (penE (.mk 9 p n s args) d ch))) := by
  have hmf : ∀ (fn : Fn) (first cap : Array Value) (w : World), (Instr.makeFunc fn first cap).run Tryd.prog w = .ok (.func fn first cap) w := fun _ _ _ _ => rfl
  obtain ⟨A, c, hrv, _, _, _⟩ := id hr
  subst hrv
  obtain ⟨X, hX⟩ : ∃ X : World, X = (((w.alloc (.cells #[penV Bc Ba] 63)).alloc (.cells #[.int .i64 9, .int .i64 p, .int .i64 n, .string (strOf s), .slice A args.length c] 24)).alloc (.cells #[.int .i64 d] 3)).alloc (.cells #[.int .i64 ch] 3) := ⟨_, rfl⟩
  obtain ⟨g, hg⟩ : ∃ g, g = w.heap.size := ⟨_, rfl⟩
  obtain ⟨hf, hsz⟩ := fr_new hX hg
  have hw : Went w Bc Ba B u X u T := by rw [hX]; exact ((((Went.refl hp).alloc _).alloc _).alloc _).alloc _
  have e0 := hf.ex.c0
  have hg1 : Bc < g := by rw [hg]; exact lt_of_heap hp.cnt
  have hg2 : Ba < g := by rw [hg]; exact lt_of_heap hp.buf
  have hBg : B ≤ g := by rw [hg]; exact hB
  have hwg : w.heap.size ≤ g := by rw [hg]; exact Nat.le_refl _
  have hd50 : d ≤ 50 := by omega
  have HEQ := Lib.hid (congrArg (adv T) ((penE_9 p n s args d ch hd).trans (need_cat_yes hq _)))
  have HX := Lib.hid hX
  have HG := Lib.hid hg
  have HF := Lib.hid hf
  have HW := Lib.hid hw
  have HR := Lib.hid hr
  clear hX hg hf hw hsz hr
  unfold penV at HX ⊢
  go_enter Tryd.func28, Tryd.ntmps28
  go_wp2_with fail
  rw [← HX.out, ← HG.out]
  refine (must_yes _).mono ?_
  rintro e1 w1 ⟨rfl, rfl⟩
  have pc1 := (HF.out).pc
  go_wp2_with fail
  refine wp_region_held_drew (S := fun w' => w'.cell? ⟨g, 0, none⟩ = some (.func (.func 47) #[] #[.pointer (some ⟨Bc, 0, none⟩), .pointer (some ⟨Ba, 0, none⟩)])) (by kernel_rfl) pc1 (fun hHeld => ?_)
  have HWd2 := Lib.hid ((HW.out).drew)
  have HFd2 := Lib.hid ((HF.out).drew)
  refine wpAnyH_take (i := 0) (oi := _) (v := .func (.func 47) #[] #[.pointer (some ⟨Bc, 0, none⟩), .pointer (some ⟨Ba, 0, none⟩)]) rfl (by kernel_rfl) (by kernel_rfl) (by kernel_rfl) (fun _ _ _ h => h) (Or.inl ⟨by rfl, fun w hS => ?_⟩) hHeld ?_
  · go_simp
  simp only [Act.put]
  refine wpAnyH_take (i := 1) (oi := _) (v := .pointer (some ⟨g + 1, 3, none⟩)) rfl (by kernel_rfl) (by kernel_rfl) (by kernel_rfl) (fun _ _ _ h => h) (Or.inl ⟨by rfl, fun w hS => ?_⟩) hHeld ?_
  · go_simp
  simp only [Act.put]
  refine wpAnyH_ready (rs := [2]) (by kernel_rfl) (by simp) ?_
  refine AllReadyH.cons rfl (fun K hK => ?_) AllReadyH.nil
  go_simp
  refine hK.out _ _ ((HFd2.out).below ((Below.refl _ _).alloc (Nat.le_refl _) _)).pc (fun hHeld => ?_)
  clear hK K
  refine wpAnyH_ready (rs := [3]) (by kernel_rfl) (by simp) ?_
  refine AllReadyH.cons rfl (fun K hK => ?_) AllReadyH.nil
  go_simp
  refine (sign_new (HFd2.out) [[45], [33]] (by simp)).mono ?_
  rintro e3 w3 hsg
  obtain ⟨rfl, hch, hfr⟩ := hsg.1 (by rcases hq with rfl | rfl <;> simp)
  clear hsg
  have HW3 := Lib.hid ((HWd2.out).loc (w2 := w3) (hch) (Nat.le_succ_of_le hwg) ((HFd2.out).nm (HWd2.out).1 hg1 hg2 (.inr (.inl rfl))))
  have HF3 : Hid (ExFr w3 g Bc Ba 9 p n [] _ d ch) := Lib.hid (hfr)
  clear hch hfr
  have hk4 := (HF3.out).pc
  go_wp2_with fail
  refine hK.out _ _ hk4 (fun hHeld => ?_)
  clear hK K
  refine wpAnyH_ready (rs := [4]) (by kernel_rfl) (by simp) ?_
  refine AllReadyH.cons rfl (fun K hK => ?_) AllReadyH.nil
  go_simp
  refine hK.out _ _ ((HF3.out).below ((Below.refl _ _).alloc (Nat.le_refl _) _)).pc (fun hHeld => ?_)
  clear hK K
  refine wpAnyH_ready (rs := [5]) (by kernel_rfl) (by simp) ?_
  refine AllReadyH.cons rfl (fun K hK => ?_) AllReadyH.nil
  go_simp
  refine (put_new (Went.refl (HW3.out).1) (Nat.le_trans hB (HW3.out).2.2.size) [[40], s] (by intro t ht; simp at ht; have := hs; first | (rcases ht with rfl | rfl | rfl <;> first | decide | exact hs | simp) | (rw [ht]; first | decide | exact hs) | (rw [ht]; simp)) (by simp)).mono ?_
  rintro e5 w5 hpost
  cases hR : adv T (some [[40], s]) with
  | none =>
    rw [hR] at hpost
    obtain ⟨rfl, hch⟩ := hpost
    have HNO := Lib.hid ((HEQ.out).trans (adv_cat_none hR _))
    have HCH := Lib.hid ((HW3.out).fell hch)
    clear hR hch
    unfold boom
    go_wp2
    refine ⟨rfl, ?_⟩
    rw [HNO.out]
    exact ⟨rfl, HCH.out⟩
  | some T5 =>
    rw [hR] at hpost
    obtain ⟨rfl, u5, hwent⟩ := hpost
    have HW5 := Lib.hid ((HW3.out).trans hwent)
    have HF5 := Lib.hid ((HF3.out).went (HW3.out).1 hg1 hg2 hwent)
    have HEQ5 := Lib.hid ((HEQ.out).trans (adv_cat_some hR _))
    clear hwent hR
    have hk6 := (HF5.out).pc
    go_wp2_with fail
    refine hK.out _ _ hk6 (fun hHeld => ?_)
    clear hK K
    refine wpAnyH_done (by kernel_rfl) ?_ _
    have pc7 := (HF5.out).pc
    go_wp2_with fail
    refine (arg_new (hb.trans ((HW5.out).2.2.below hB (fun x hx => (hp.mine hx).1))) hBg hg1 hg2 (HW5.out).1 (HF5.out) (HR.out) hd0 hd50 [[41]] (by intro t ht; simp at ht; have := hs; first | (rcases ht with rfl | rfl | rfl <;> first | decide | exact hs | simp) | (rw [ht]; first | decide | exact hs) | (rw [ht]; simp)) (by simp)).mono ?_
    rintro e8 w8 hpost
    cases hR : adv T5 (argC args d [[41]]) with
    | none =>
      rw [hR] at hpost
      obtain ⟨rfl, hch⟩ := hpost
      have HNO := Lib.hid ((HEQ5.out).trans (adv_cat_none hR _))
      have HCH := Lib.hid ((HW5.out).fell_fr hwg hch)
      clear hR hch
      unfold boom
      go_wp2
      refine ⟨rfl, ?_⟩
      rw [HNO.out]
      exact ⟨rfl, HCH.out⟩
    | some T8 =>
      rw [hR] at hpost
      obtain ⟨rfl, u8, V8, hpA, hown, hch, hfr, hrd⟩ := hpost
      obtain ⟨A8, c8, hV, _, _, _⟩ := id hrd
      subst hV
      have HW8 := Lib.hid ((HW5.out).fr hwg hpA hown hch)
      have HF8 := Lib.hid hfr
      have HR8 := Lib.hid hrd
      have HEQ8 := Lib.hid ((HEQ5.out).trans (adv_cat_some hR _))
      clear hpA hown hch hfr hrd hR
      have c2 := (HF8.out).ex.c2
      have c3 := (HF8.out).ex.c3
      have c4 := (HF8.out).ex.c4
      have hz0 : (strOf []).toList = [] := strOf_toList []
      obtain ⟨m, hm⟩ : ∃ m, m = (args.tail).length := ⟨_, rfl⟩
      rw [← hm] at c4
      by_cases hn : n = 0
      case neg =>
        have HNO := Lib.hid ((HEQ8.out).trans (show adv T8 (need _ (some [])) = none from by rw [need_no (fun h => hn h.1)]; rfl))
        clear hm
        go_wp2_with fail
        refine (must_no _).mono ?_
        rintro e9 w9 ⟨rfl, rfl⟩
        unfold boom
        go_wp2
        refine ⟨rfl, ?_⟩
        rw [HNO.out]
        exact ⟨rfl, (HW8.out).2.2⟩
      by_cases hl0 : (args.tail).length = 0
      case neg =>
        have HNO := Lib.hid ((HEQ8.out).trans (show adv T8 (need _ (some [])) = none from by rw [need_no (fun h => hl0 h.2)]; rfl))
        subst hn
        have hl1 : ((m : Int) == 0) = false := by rw [beq_eq_false_iff_ne]; omega
        clear hm
        clear hl0
        go_wp2_with fail
        refine (must_no _).mono ?_
        rintro e9 w9 ⟨rfl, rfl⟩
        unfold boom
        go_wp2
        refine ⟨rfl, ?_⟩
        rw [HNO.out]
        exact ⟨rfl, (HW8.out).2.2⟩
      have HFIN := Lib.hid ((HEQ8.out).trans (show adv T8 (need _ (some [])) = some T8 from by rw [need_yes ⟨hn, hl0⟩]; exact adv_nil (HW8.out).1.fit))
      subst hn
      obtain rfl : m = 0 := by omega
      clear hm hl0
      go_wp2_with fail
      refine (must_yes _).mono ?_
      rintro e9 w9 ⟨rfl, rfl⟩
      go_wp2
      go_end0
      rw [HFIN.out]
      exact ⟨rfl, _, HW8.out⟩

set_option maxRecDepth 100000 in
set_option maxHeartbeats 2000000 in
theorem expr_9_no {w0 w : World} {Bc Ba B : Nat} {u : Value} {T : List (List UInt8)} {p n : Int} {s : List UInt8} {r : Value} {args : List Ex} {d ch : Int} (hb : Below B w0 w) (hB : B ≤ w.heap.size) (hp : PenAt w Bc Ba B u T) (hd0 : 0 ≤ d) (hd : d ≤ 24) (hc0 : 0 ≤ ch) (hr : Reads w0 B args r) (hs : s.length ≤ 40000) (hq : ¬ (s = [45] ∨ s = [33])) :
    Calls Tryd.prog 28 #[penV Bc Ba, .agg #[.int .i64 9, .int .i64 p, .int .i64 n, .string (strOf s), r], .int .i64 d, .int .i64 ch] w (PenPost w Bc Ba B u (adv T (penE (.mk 9 p n s args) d ch))) := by
  have hmf : ∀ (fn : Fn) (first cap : Array Value) (w : World), (Instr.makeFunc fn first cap).run Tryd.prog w = .ok (.func fn first cap) w := fun _ _ _ _ => rfl
  obtain ⟨A, c, hrv, _, _, _⟩ := id hr
  subst hrv
  obtain ⟨X, hX⟩ : ∃ X : World, X = (((w.alloc (.cells #[penV Bc Ba] 63)).alloc (.cells #[.int .i64 9, .int .i64 p, .int .i64 n, .string (strOf s), .slice A args.length c] 24)).alloc (.cells #[.int .i64 d] 3)).alloc (.cells #[.int .i64 ch] 3) := ⟨_, rfl⟩
  obtain ⟨g, hg⟩ : ∃ g, g = w.heap.size := ⟨_, rfl⟩
  obtain ⟨hf, hsz⟩ := fr_new hX hg
  have hw : Went w Bc Ba B u X u T := by rw [hX]; exact ((((Went.refl hp).alloc _).alloc _).alloc _).alloc _
  have e0 := hf.ex.c0
  have hg1 : Bc < g := by rw [hg]; exact lt_of_heap hp.cnt
  have hg2 : Ba < g := by rw [hg]; exact lt_of_heap hp.buf
  have hBg : B ≤ g := by rw [hg]; exact hB
  have hwg : w.heap.size ≤ g := by rw [hg]; exact Nat.le_refl _
  have hd50 : d ≤ 50 := by omega
  have HEQ := Lib.hid (congrArg (adv T) ((penE_9 p n s args d ch hd).trans (need_cat_no hq _)))
  have HX := Lib.hid hX
  have HG := Lib.hid hg
  have HF := Lib.hid hf
  have HW := Lib.hid hw
  have HR := Lib.hid hr
  clear hX hg hf hw hsz hr
  unfold penV at HX ⊢
  go_enter Tryd.func28, Tryd.ntmps28
  go_wp2_with fail
  rw [← HX.out, ← HG.out]
  refine (must_yes _).mono ?_
  rintro e1 w1 ⟨rfl, rfl⟩
  have HNO := HEQ
  have pc1 := (HF.out).pc
  go_wp2_with fail
  refine wp_region_held_drew (S := fun w' => w'.cell? ⟨g, 0, none⟩ = some (.func (.func 47) #[] #[.pointer (some ⟨Bc, 0, none⟩), .pointer (some ⟨Ba, 0, none⟩)])) (by kernel_rfl) pc1 (fun hHeld => ?_)
  have HWd2 := Lib.hid ((HW.out).drew)
  have HFd2 := Lib.hid ((HF.out).drew)
  refine wpAnyH_take (i := 0) (oi := _) (v := .func (.func 47) #[] #[.pointer (some ⟨Bc, 0, none⟩), .pointer (some ⟨Ba, 0, none⟩)]) rfl (by kernel_rfl) (by kernel_rfl) (by kernel_rfl) (fun _ _ _ h => h) (Or.inl ⟨by rfl, fun w hS => ?_⟩) hHeld ?_
  · go_simp
  simp only [Act.put]
  refine wpAnyH_take (i := 1) (oi := _) (v := .pointer (some ⟨g + 1, 3, none⟩)) rfl (by kernel_rfl) (by kernel_rfl) (by kernel_rfl) (fun _ _ _ h => h) (Or.inl ⟨by rfl, fun w hS => ?_⟩) hHeld ?_
  · go_simp
  simp only [Act.put]
  refine wpAnyH_ready (rs := [2]) (by kernel_rfl) (by simp) ?_
  refine AllReadyH.cons rfl (fun K hK => ?_) AllReadyH.nil
  go_simp
  refine hK.out _ _ ((HFd2.out).below ((Below.refl _ _).alloc (Nat.le_refl _) _)).pc (fun hHeld => ?_)
  clear hK K
  refine wpAnyH_ready (rs := [3]) (by kernel_rfl) (by simp) ?_
  refine AllReadyH.cons rfl (fun K hK => ?_) AllReadyH.nil
  go_simp
  refine (sign_new (HFd2.out) [[45], [33]] (by simp)).mono ?_
  rintro e3 w3 hsg
  obtain ⟨rfl, hbl⟩ := hsg.2 (by intro h; simp at h; exact hq h)
  clear hsg
  have HCH := Lib.hid ((HWd2.out).2.2.trans (Chg.of_below (P := fun _ => False) hbl) (fun _ _ e => e.elim))
  unfold boom
  go_wp2
  refine ⟨rfl, ?_⟩
  rw [HNO.out]
  exact ⟨rfl, HCH.out⟩

end Go.Proofs.YtmbkjabjcphkbaaDoor
end
section
/- The walks of an expression, kind by kind. -/
set_option linter.unusedVariables false
namespace Go.Proofs.YtmbkjabjcphkbaaDoor
open Go.RowKit

set_option maxRecDepth 100000 in
set_option maxHeartbeats 2000000 in
theorem expr_10_yes {w0 w : World} {Bc Ba B : Nat} {u : Value} {T : List (List UInt8)} {p n : Int} {s : List UInt8} {r : Value} {args : List Ex} {d ch : Int} (hb : Below B w0 w) (hB : B ≤ w.heap.size) (hp : PenAt w Bc Ba B u T) (hd0 : 0 ≤ d) (hd : d ≤ 24) (hc0 : 0 ≤ ch) (hr : Reads w0 B args r) (hs : s.length ≤ 40000) (hq : s ∈ opsL) :
    Calls Tryd.prog 28 #[penV Bc Ba, .agg #[.int .i64 10, .int .i64 p, .int .i64 n, .string (strOf s), r], .int .i64 d, .int .i64 ch] w (PenPost w Bc Ba B u (adv T (penE (.mk 10 p n s args) d ch))) := by
  have hmf : ∀ (fn : Fn) (first cap : Array Value) (w : World), (Instr.makeFunc fn first cap).run Tryd.prog w = .ok (.func fn first cap) w := fun _ _ _ _ => rfl
  obtain ⟨A, c, hrv, _, _, _⟩ := id hr
  subst hrv
  obtain ⟨X, hX⟩ : ∃ X : World, X = (((w.alloc (.cells #[penV Bc Ba] 63)).alloc (.cells #[.int .i64 10, .int .i64 p, .int .i64 n, .string (strOf s), .slice A args.length c] 24)).alloc (.cells #[.int .i64 d] 3)).alloc (.cells #[.int .i64 ch] 3) := ⟨_, rfl⟩
  obtain ⟨g, hg⟩ : ∃ g, g = w.heap.size := ⟨_, rfl⟩
  obtain ⟨hf, hsz⟩ := fr_new hX hg
  have hw : Went w Bc Ba B u X u T := by rw [hX]; exact ((((Went.refl hp).alloc _).alloc _).alloc _).alloc _
  have e0 := hf.ex.c0
  have hg1 : Bc < g := by rw [hg]; exact lt_of_heap hp.cnt
  have hg2 : Ba < g := by rw [hg]; exact lt_of_heap hp.buf
  have hBg : B ≤ g := by rw [hg]; exact hB
  have hwg : w.heap.size ≤ g := by rw [hg]; exact Nat.le_refl _
  have hd50 : d ≤ 50 := by omega
  have HEQ := Lib.hid (congrArg (adv T) ((penE_10 p n s args d ch hd).trans (congrArg (cat (some [[40]])) (need_cat_yes hq _))))
  have HX := Lib.hid hX
  have HG := Lib.hid hg
  have HF := Lib.hid hf
  have HW := Lib.hid hw
  have HR := Lib.hid hr
  clear hX hg hf hw hsz hr
  unfold penV at HX ⊢
  go_enter Tryd.func28, Tryd.ntmps28
  go_wp2_with fail
  rw [← HX.out, ← HG.out]
  refine (must_yes _).mono ?_
  rintro e1 w1 ⟨rfl, rfl⟩
  have pc1 := (HF.out).pc
  go_wp2_with fail
  refine (put_new (Went.refl (HW.out).1) (Nat.le_trans hB (HW.out).2.2.size) [[40]] (by intro t ht; simp at ht; have := hs; first | (rcases ht with rfl | rfl | rfl <;> first | decide | exact hs | simp) | (rw [ht]; first | decide | exact hs) | (rw [ht]; simp)) (by simp)).mono ?_
  rintro e2 w2 hpost
  cases hR : adv T (some [[40]]) with
  | none =>
    rw [hR] at hpost
    obtain ⟨rfl, hch⟩ := hpost
    have HNO := Lib.hid ((HEQ.out).trans (adv_cat_none hR _))
    have HCH := Lib.hid ((HW.out).fell hch)
    clear hR hch
    unfold boom
    go_wp2
    refine ⟨rfl, ?_⟩
    rw [HNO.out]
    exact ⟨rfl, HCH.out⟩
  | some T2 =>
    rw [hR] at hpost
    obtain ⟨rfl, u2, hwent⟩ := hpost
    have HW2 := Lib.hid ((HW.out).trans hwent)
    have HF2 := Lib.hid ((HF.out).went (HW.out).1 hg1 hg2 hwent)
    have HEQ2 := Lib.hid ((HEQ.out).trans (adv_cat_some hR _))
    clear hwent hR
    have pc3 := (HF2.out).pc
    go_wp2_with fail
    refine (sign_new (HF2.out) opsL (by decide)).mono ?_
    rintro e4 w4 hsg
    obtain ⟨rfl, hch, hfr⟩ := hsg.1 hq
    clear hsg
    have HW4 := Lib.hid ((HW2.out).loc (w2 := w4) (hch) (Nat.le_succ_of_le hwg) ((HF2.out).nm (HW2.out).1 hg1 hg2 (.inr (.inl rfl))))
    have HF4 : Hid (ExFr w4 g Bc Ba 10 p n [] _ d ch) := Lib.hid (hfr)
    clear hch hfr
    have pc5 := (HF4.out).pc
    go_wp2_with fail
    refine (arg_new (hb.trans ((HW4.out).2.2.below hB (fun x hx => (hp.mine hx).1))) hBg hg1 hg2 (HW4.out).1 (HF4.out) (HR.out) hd0 hd50 [s] (by intro t ht; simp at ht; have := hs; first | (rcases ht with rfl | rfl | rfl <;> first | decide | exact hs | simp) | (rw [ht]; first | decide | exact hs) | (rw [ht]; simp)) (by simp)).mono ?_
    rintro e6 w6 hpost
    cases hR : adv T2 (argC args d [s]) with
    | none =>
      rw [hR] at hpost
      obtain ⟨rfl, hch⟩ := hpost
      have HNO := Lib.hid ((HEQ2.out).trans (adv_cat_none hR _))
      have HCH := Lib.hid ((HW4.out).fell_fr hwg hch)
      clear hR hch
      unfold boom
      go_wp2
      refine ⟨rfl, ?_⟩
      rw [HNO.out]
      exact ⟨rfl, HCH.out⟩
    | some T6 =>
      rw [hR] at hpost
      obtain ⟨rfl, u6, V6, hpA, hown, hch, hfr, hrd⟩ := hpost
      obtain ⟨A6, c6, hV, _, _, _⟩ := id hrd
      subst hV
      have HW6 := Lib.hid ((HW4.out).fr hwg hpA hown hch)
      have HF6 := Lib.hid hfr
      have HR6 := Lib.hid hrd
      have HEQ6 := Lib.hid ((HEQ2.out).trans (adv_cat_some hR _))
      clear hpA hown hch hfr hrd hR
      have pc7 := (HF6.out).pc
      go_wp2_with fail
      refine (arg_new (hb.trans ((HW6.out).2.2.below hB (fun x hx => (hp.mine hx).1))) hBg hg1 hg2 (HW6.out).1 (HF6.out) (HR6.out) hd0 hd50 [[41]] (by intro t ht; simp at ht; have := hs; first | (rcases ht with rfl | rfl | rfl <;> first | decide | exact hs | simp) | (rw [ht]; first | decide | exact hs) | (rw [ht]; simp)) (by simp)).mono ?_
      rintro e8 w8 hpost
      cases hR : adv T6 (argC args.tail d [[41]]) with
      | none =>
        rw [hR] at hpost
        obtain ⟨rfl, hch⟩ := hpost
        have HNO := Lib.hid ((HEQ6.out).trans (adv_cat_none hR _))
        have HCH := Lib.hid ((HW6.out).fell_fr hwg hch)
        clear hR hch
        unfold boom
        go_wp2
        refine ⟨rfl, ?_⟩
        rw [HNO.out]
        exact ⟨rfl, HCH.out⟩
      | some T8 =>
        rw [hR] at hpost
        obtain ⟨rfl, u8, V8, hpA, hown, hch, hfr, hrd⟩ := hpost
        obtain ⟨A8, c8, hV, _, _, _⟩ := id hrd
        subst hV
        have HW8 := Lib.hid ((HW6.out).fr hwg hpA hown hch)
        have HF8 := Lib.hid hfr
        have HR8 := Lib.hid hrd
        have HEQ8 := Lib.hid ((HEQ6.out).trans (adv_cat_some hR _))
        clear hpA hown hch hfr hrd hR
        have c2 := (HF8.out).ex.c2
        have c3 := (HF8.out).ex.c3
        have c4 := (HF8.out).ex.c4
        have hz0 : (strOf []).toList = [] := strOf_toList []
        obtain ⟨m, hm⟩ : ∃ m, m = (args.tail.tail).length := ⟨_, rfl⟩
        rw [← hm] at c4
        by_cases hn : n = 0
        case neg =>
          have HNO := Lib.hid ((HEQ8.out).trans (show adv T8 (need _ (some [])) = none from by rw [need_no (fun h => hn h.1)]; rfl))
          clear hm
          go_wp2_with fail
          refine (must_no _).mono ?_
          rintro e9 w9 ⟨rfl, rfl⟩
          unfold boom
          go_wp2
          refine ⟨rfl, ?_⟩
          rw [HNO.out]
          exact ⟨rfl, (HW8.out).2.2⟩
        by_cases hl0 : (args.tail.tail).length = 0
        case neg =>
          have HNO := Lib.hid ((HEQ8.out).trans (show adv T8 (need _ (some [])) = none from by rw [need_no (fun h => hl0 h.2)]; rfl))
          subst hn
          have hl1 : ((m : Int) == 0) = false := by rw [beq_eq_false_iff_ne]; omega
          clear hm
          clear hl0
          go_wp2_with fail
          refine (must_no _).mono ?_
          rintro e9 w9 ⟨rfl, rfl⟩
          unfold boom
          go_wp2
          refine ⟨rfl, ?_⟩
          rw [HNO.out]
          exact ⟨rfl, (HW8.out).2.2⟩
        have HFIN := Lib.hid ((HEQ8.out).trans (show adv T8 (need _ (some [])) = some T8 from by rw [need_yes ⟨hn, hl0⟩]; exact adv_nil (HW8.out).1.fit))
        subst hn
        obtain rfl : m = 0 := by omega
        clear hm hl0
        go_wp2_with fail
        refine (must_yes _).mono ?_
        rintro e9 w9 ⟨rfl, rfl⟩
        go_wp2
        go_end0
        rw [HFIN.out]
        exact ⟨rfl, _, HW8.out⟩

set_option maxRecDepth 100000 in
set_option maxHeartbeats 2000000 in
theorem expr_10_no {w0 w : World} {Bc Ba B : Nat} {u : Value} {T : List (List UInt8)} {p n : Int} {s : List UInt8} {r : Value} {args : List Ex} {d ch : Int} (hb : Below B w0 w) (hB : B ≤ w.heap.size) (hp : PenAt w Bc Ba B u T) (hd0 : 0 ≤ d) (hd : d ≤ 24) (hc0 : 0 ≤ ch) (hr : Reads w0 B args r) (hs : s.length ≤ 40000) (hq : ¬ s ∈ opsL) :
    Calls Tryd.prog 28 #[penV Bc Ba, .agg #[.int .i64 10, .int .i64 p, .int .i64 n, .string (strOf s), r], .int .i64 d, .int .i64 ch] w (PenPost w Bc Ba B u (adv T (penE (.mk 10 p n s args) d ch))) := by
  have hmf : ∀ (fn : Fn) (first cap : Array Value) (w : World), (Instr.makeFunc fn first cap).run Tryd.prog w = .ok (.func fn first cap) w := fun _ _ _ _ => rfl
  obtain ⟨A, c, hrv, _, _, _⟩ := id hr
  subst hrv
  obtain ⟨X, hX⟩ : ∃ X : World, X = (((w.alloc (.cells #[penV Bc Ba] 63)).alloc (.cells #[.int .i64 10, .int .i64 p, .int .i64 n, .string (strOf s), .slice A args.length c] 24)).alloc (.cells #[.int .i64 d] 3)).alloc (.cells #[.int .i64 ch] 3) := ⟨_, rfl⟩
  obtain ⟨g, hg⟩ : ∃ g, g = w.heap.size := ⟨_, rfl⟩
  obtain ⟨hf, hsz⟩ := fr_new hX hg
  have hw : Went w Bc Ba B u X u T := by rw [hX]; exact ((((Went.refl hp).alloc _).alloc _).alloc _).alloc _
  have e0 := hf.ex.c0
  have hg1 : Bc < g := by rw [hg]; exact lt_of_heap hp.cnt
  have hg2 : Ba < g := by rw [hg]; exact lt_of_heap hp.buf
  have hBg : B ≤ g := by rw [hg]; exact hB
  have hwg : w.heap.size ≤ g := by rw [hg]; exact Nat.le_refl _
  have hd50 : d ≤ 50 := by omega
  have HEQ := Lib.hid (congrArg (adv T) ((penE_10 p n s args d ch hd).trans (congrArg (cat (some [[40]])) (need_cat_no hq _))))
  have HX := Lib.hid hX
  have HG := Lib.hid hg
  have HF := Lib.hid hf
  have HW := Lib.hid hw
  have HR := Lib.hid hr
  clear hX hg hf hw hsz hr
  unfold penV at HX ⊢
  go_enter Tryd.func28, Tryd.ntmps28
  go_wp2_with fail
  rw [← HX.out, ← HG.out]
  refine (must_yes _).mono ?_
  rintro e1 w1 ⟨rfl, rfl⟩
  have pc1 := (HF.out).pc
  go_wp2_with fail
  refine (put_new (Went.refl (HW.out).1) (Nat.le_trans hB (HW.out).2.2.size) [[40]] (by intro t ht; simp at ht; have := hs; first | (rcases ht with rfl | rfl | rfl <;> first | decide | exact hs | simp) | (rw [ht]; first | decide | exact hs) | (rw [ht]; simp)) (by simp)).mono ?_
  rintro e2 w2 hpost
  cases hR : adv T (some [[40]]) with
  | none =>
    rw [hR] at hpost
    obtain ⟨rfl, hch⟩ := hpost
    have HNO := Lib.hid ((HEQ.out).trans (adv_cat_none hR _))
    have HCH := Lib.hid ((HW.out).fell hch)
    clear hR hch
    unfold boom
    go_wp2
    refine ⟨rfl, ?_⟩
    rw [HNO.out]
    exact ⟨rfl, HCH.out⟩
  | some T2 =>
    rw [hR] at hpost
    obtain ⟨rfl, u2, hwent⟩ := hpost
    have HW2 := Lib.hid ((HW.out).trans hwent)
    have HF2 := Lib.hid ((HF.out).went (HW.out).1 hg1 hg2 hwent)
    have HEQ2 := Lib.hid ((HEQ.out).trans (adv_cat_some hR _))
    clear hwent hR
    have pc3 := (HF2.out).pc
    go_wp2_with fail
    refine (sign_new (HF2.out) opsL (by decide)).mono ?_
    rintro e4 w4 hsg
    obtain ⟨rfl, hbl⟩ := hsg.2 hq
    clear hsg
    have HNO := Lib.hid ((HEQ2.out).trans (adv_none _))
    have HCH := Lib.hid ((HW2.out).2.2.trans (Chg.of_below (P := fun _ => False) hbl) (fun _ _ e => e.elim))
    unfold boom
    go_wp2
    refine ⟨rfl, ?_⟩
    rw [HNO.out]
    exact ⟨rfl, HCH.out⟩

set_option maxRecDepth 100000 in
set_option maxHeartbeats 2000000 in
theorem expr_else {w0 w : World} {Bc Ba B : Nat} {u : Value} {T : List (List UInt8)} {p n : Int} {s : List UInt8} {r : Value} {args : List Ex} {d ch : Int} (hb : Below B w0 w) (hB : B ≤ w.heap.size) (hp : PenAt w Bc Ba B u T) (hd0 : 0 ≤ d) (hd : d ≤ 24) (hc0 : 0 ≤ ch) (hr : Reads w0 B args r) (hs : s.length ≤ 40000) {k : Int} (hk : k < 1 ∨ 13 < k) :
    Calls Tryd.prog 28 #[penV Bc Ba, .agg #[.int .i64 k, .int .i64 p, .int .i64 n, .string (strOf s), r], .int .i64 d, .int .i64 ch] w (PenPost w Bc Ba B u (adv T (penE (.mk k p n s args) d ch))) := by
  have e1k : (k == 1) = false := by rw [beq_eq_false_iff_ne]; omega
  have e2k : (k == 2) = false := by rw [beq_eq_false_iff_ne]; omega
  have e3k : (k == 3) = false := by rw [beq_eq_false_iff_ne]; omega
  have e4k : (k == 4) = false := by rw [beq_eq_false_iff_ne]; omega
  have e5k : (k == 5) = false := by rw [beq_eq_false_iff_ne]; omega
  have e6k : (k == 6) = false := by rw [beq_eq_false_iff_ne]; omega
  have e7k : (k == 7) = false := by rw [beq_eq_false_iff_ne]; omega
  have e8k : (k == 8) = false := by rw [beq_eq_false_iff_ne]; omega
  have e9k : (k == 9) = false := by rw [beq_eq_false_iff_ne]; omega
  have e10k : (k == 10) = false := by rw [beq_eq_false_iff_ne]; omega
  have e11k : (k == 11) = false := by rw [beq_eq_false_iff_ne]; omega
  have e12k : (k == 12) = false := by rw [beq_eq_false_iff_ne]; omega
  have e13k : (k == 13) = false := by rw [beq_eq_false_iff_ne]; omega
  have hmf : ∀ (fn : Fn) (first cap : Array Value) (w : World), (Instr.makeFunc fn first cap).run Tryd.prog w = .ok (.func fn first cap) w := fun _ _ _ _ => rfl
  obtain ⟨A, c, hrv, _, _, _⟩ := id hr
  subst hrv
  obtain ⟨X, hX⟩ : ∃ X : World, X = (((w.alloc (.cells #[penV Bc Ba] 63)).alloc (.cells #[.int .i64 k, .int .i64 p, .int .i64 n, .string (strOf s), .slice A args.length c] 24)).alloc (.cells #[.int .i64 d] 3)).alloc (.cells #[.int .i64 ch] 3) := ⟨_, rfl⟩
  obtain ⟨g, hg⟩ : ∃ g, g = w.heap.size := ⟨_, rfl⟩
  obtain ⟨hf, hsz⟩ := fr_new hX hg
  have hw : Went w Bc Ba B u X u T := by rw [hX]; exact ((((Went.refl hp).alloc _).alloc _).alloc _).alloc _
  have e0 := hf.ex.c0
  have hg1 : Bc < g := by rw [hg]; exact lt_of_heap hp.cnt
  have hg2 : Ba < g := by rw [hg]; exact lt_of_heap hp.buf
  have hBg : B ≤ g := by rw [hg]; exact hB
  have hwg : w.heap.size ≤ g := by rw [hg]; exact Nat.le_refl _
  have hd50 : d ≤ 50 := by omega
  have HEQ := Lib.hid (congrArg (adv T) (penE_else p n s args d ch k hk))
  have HX := Lib.hid hX
  have HG := Lib.hid hg
  have HF := Lib.hid hf
  have HW := Lib.hid hw
  have HR := Lib.hid hr
  clear hX hg hf hw hsz hr
  unfold penV at HX ⊢
  go_enter Tryd.func28, Tryd.ntmps28
  go_wp2_with fail
  rw [← HX.out, ← HG.out]
  refine (must_yes _).mono ?_
  rintro e1 w1 ⟨rfl, rfl⟩
  clear hk
  have pc1 := (HF.out).pc
  go_wp2_with fail
  have HNO := HEQ
  refine (must_no _).mono ?_
  rintro e2 w2 ⟨rfl, rfl⟩
  have HCH := Lib.hid ((HW.out).2.2)
  unfold boom
  go_wp2
  refine ⟨rfl, ?_⟩
  rw [HNO.out]
  exact ⟨rfl, HCH.out⟩

set_option maxRecDepth 100000 in
set_option maxHeartbeats 2000000 in
theorem expr_deep {w0 w : World} {Bc Ba B : Nat} {u : Value} {T : List (List UInt8)} {p n : Int} {s : List UInt8} {r : Value} {args : List Ex} {d ch : Int} (hb : Below B w0 w) (hB : B ≤ w.heap.size) (hp : PenAt w Bc Ba B u T) (hd0 : 0 ≤ d) (hd : ¬ d ≤ 24) (hd9 : d ≤ 100) (hc0 : 0 ≤ ch) (hr : Reads w0 B args r) (hs : s.length ≤ 40000) {k : Int} :
    Calls Tryd.prog 28 #[penV Bc Ba, .agg #[.int .i64 k, .int .i64 p, .int .i64 n, .string (strOf s), r], .int .i64 d, .int .i64 ch] w (PenPost w Bc Ba B u (adv T (penE (.mk k p n s args) d ch))) := by
  have hmf : ∀ (fn : Fn) (first cap : Array Value) (w : World), (Instr.makeFunc fn first cap).run Tryd.prog w = .ok (.func fn first cap) w := fun _ _ _ _ => rfl
  obtain ⟨A, c, hrv, _, _, _⟩ := id hr
  subst hrv
  obtain ⟨X, hX⟩ : ∃ X : World, X = (((w.alloc (.cells #[penV Bc Ba] 63)).alloc (.cells #[.int .i64 k, .int .i64 p, .int .i64 n, .string (strOf s), .slice A args.length c] 24)).alloc (.cells #[.int .i64 d] 3)).alloc (.cells #[.int .i64 ch] 3) := ⟨_, rfl⟩
  obtain ⟨g, hg⟩ : ∃ g, g = w.heap.size := ⟨_, rfl⟩
  obtain ⟨hf, hsz⟩ := fr_new hX hg
  have hw : Went w Bc Ba B u X u T := by rw [hX]; exact ((((Went.refl hp).alloc _).alloc _).alloc _).alloc _
  have e0 := hf.ex.c0
  have hg1 : Bc < g := by rw [hg]; exact lt_of_heap hp.cnt
  have hg2 : Ba < g := by rw [hg]; exact lt_of_heap hp.buf
  have hBg : B ≤ g := by rw [hg]; exact hB
  have hwg : w.heap.size ≤ g := by rw [hg]; exact Nat.le_refl _
  have HEQ := Lib.hid (congrArg (adv T) (penE_deep p n s args d ch k hd))
  have HX := Lib.hid hX
  have HG := Lib.hid hg
  have HF := Lib.hid hf
  have HW := Lib.hid hw
  have HR := Lib.hid hr
  clear hX hg hf hw hsz hr
  unfold penV at HX ⊢
  go_enter Tryd.func28, Tryd.ntmps28
  go_wp2_with fail
  rw [← HX.out, ← HG.out]
  have HNO := HEQ
  refine (must_no _).mono ?_
  rintro e2 w2 ⟨rfl, rfl⟩
  have HCH := Lib.hid HW.out.2.2
  unfold boom
  go_wp2
  refine ⟨rfl, ?_⟩
  rw [HNO.out]
  exact ⟨rfl, HCH.out⟩

end Go.Proofs.YtmbkjabjcphkbaaDoor
end
section
/- The contract of an expression's writer. -/
set_option linter.unusedVariables false
namespace Go.Proofs.YtmbkjabjcphkbaaDoor
open Go.RowKit

/-- the table of powers of ten reads as it is laid, whatever is done from block B on -/
def Tab (B : Nat) (w : World) : Prop := Lib.TabBelow Tryd.prog B w "internal/strconv.uint64pow10" .u64 Lib.pow10Tab
theorem expr_step {w0 : World} {B : Nat} (htab : Tab B w0) (e : Ex) {r : Value} (hr : Reads w0 B e.args r) (hs : e.name.length ≤ 40000) : WritesE w0 B e r := by
  obtain ⟨k, p, n, s, args⟩ := e
  intro w Bc Ba u T d ch hb hB hp hd0 hd9 hc0 hc9
  have hr : Reads w0 B args r := hr
  have hs : s.length ≤ 40000 := hs
  show Calls Tryd.prog 28 #[penV Bc Ba, .agg #[.int .i64 k, .int .i64 p, .int .i64 n, .string (strOf s), r], .int .i64 d, .int .i64 ch] w (PenPost w Bc Ba B u (adv T (penE (.mk k p n s args) d ch)))
  by_cases hd : d ≤ 24
  · by_cases k1 : k = 1
    · subst k1
      by_cases hq : 0 ≤ n ∧ n ≤ 999999999999999999
      · exact expr_1_yes hb hB hp hd0 hd hc0 hr hs htab hq
      · exact expr_1_no hb hB hp hd0 hd hc0 hr hs hq
    by_cases k2 : k = 2
    · subst k2
      by_cases hq : n = 0 ∨ n = 1
      · exact expr_2_yes hb hB hp hd0 hd hc0 hr hs hq
      · exact expr_2_no hb hB hp hd0 hd hc0 hr hs hq
    by_cases k3 : k = 3
    · subst k3; exact expr_3 hb hB hp hd0 hd hc0 hr hs
    by_cases k4 : k = 4
    · subst k4
      by_cases hq : nameB s = true
      · exact expr_4_yes hb hB hp hd0 hd hc0 hr hs hq
      · exact expr_4_no hb hB hp hd0 hd hc0 hr hs hq
    by_cases k5 : k = 5
    · subst k5
      by_cases hq : nameB s = true
      · exact expr_5_yes hb hB hp hd0 hd hc0 hr hs hq
      · exact expr_5_no hb hB hp hd0 hd hc0 hr hs hq
    by_cases k6 : k = 6
    · subst k6; exact expr_6 hb hB hp hd0 hd hc0 hr hs
    by_cases k7 : k = 7
    · subst k7; exact expr_7 hb hB hp hd0 hd hc0 hr hs
    by_cases k8 : k = 8
    · subst k8; exact expr_8 hb hB hp hd0 hd hc0 hr hs
    by_cases k9 : k = 9
    · subst k9
      by_cases hq : s = [45] ∨ s = [33]
      · exact expr_9_yes hb hB hp hd0 hd hc0 hr hs hq
      · exact expr_9_no hb hB hp hd0 hd hc0 hr hs hq
    by_cases k10 : k = 10
    · subst k10
      by_cases hq : s ∈ opsL
      · exact expr_10_yes hb hB hp hd0 hd hc0 hr hs hq
      · exact expr_10_no hb hB hp hd0 hd hc0 hr hs hq
    by_cases k11 : k = 11
    · subst k11
      by_cases hq : nameB s = true
      · exact expr_11_yes hb hB hp hd0 hd hc0 hr hs hq
      · exact expr_11_no hb hB hp hd0 hd hc0 hr hs hq
    by_cases k12 : k = 12
    · subst k12; exact expr_12 hb hB hp hd0 hd hc0 hr hs
    by_cases k13 : k = 13
    · subst k13
      by_cases hq : nameB s = true
      · exact expr_13_yes hb hB hp hd0 hd hc0 hr hs hq
      · exact expr_13_no hb hB hp hd0 hd hc0 hr hs hq
    exact expr_else hb hB hp hd0 hd hc0 hr hs (by omega)
  · exact expr_deep hb hB hp hd0 hd hd9 hc0 hr hs
theorem reads_any {w0 : World} {B : Nat} (htab : Tab B w0) {es : List Ex} {v : Value} (h : IsExs w0 (· < B) es v) : smallEs 40000 es → Reads w0 B es v := by
  induction h with
  | mk es A c f hc hM hA hr ih =>
    intro hsm
    refine ⟨A, c, rfl, hc, hM, fun j hj => ?_⟩
    obtain ⟨b, off, h1, h2, h3, c0, c1, c2, c3, c4⟩ := hA j hj
    obtain ⟨h4, h5, h6⟩ := smallE_args (smallEs_get hsm j hj)
    have hrd := ih j hj h6
    obtain ⟨A5, c5, hf, _, _⟩ := (hr j hj).slice
    have hw := expr_step htab es[j] hrd h4
    rw [hf] at hw c4
    exact ⟨b, off, A5, _, c5, h1, h2, h4, c0, c1, c2, c3, c4, hw⟩

end Go.Proofs.YtmbkjabjcphkbaaDoor
end
section
/- A statement's tokens, kind by kind, in the order in which they are written. -/
set_option linter.unusedVariables false
namespace Go.Proofs.YtmbkjabjcphkbaaDoor
open Go.RowKit

/-- an argument list's elements, behind so many -/
def elemsC : List Ex → Nat → Int → Ts
  | [], _, _ => some []
  | e :: es, i, d => cat (cat (some (if i = 0 then [] else [[44]])) (penE e d 0)) (elemsC es (i + 1) d)
def argsC (es : List Ex) (d : Int) : Ts := need (es.length ≤ 4) (cat (some [[40]]) (cat (elemsC es 0 d) (some [[41]])))
def callC (ty nm : List UInt8) (es : List Ex) (d : Int) : Ts :=
  cat (some [[99, 97, 108, 108]]) (cat (if ty = [] then some [] else cat (need (nameB ty = true) (some [])) (some [ty, [61]])) (cat (some [nm]) (cat (argsC es d) (some [[59]]))))
def placeB (ex : List Ex) : Prop := match ex with
  | [] => False
  | e :: _ => e.kind = 4 ∨ e.kind = 5 ∨ e.kind = 6
instance (ex : List Ex) : Decidable (placeB ex) := by unfold placeB; cases ex <;> infer_instance

section
variable (p : Int) (nm ty : List UInt8) (ex : List Ex) (bd el : List Sm) (d : Int)
/-- statements that are no block, whose head and expressions are as they should be -/
theorem penS_plain {k : Int} {xs : List (List (List UInt8))} (hk : ¬ (k = 3 ∨ k = 4)) (hh : stHead k nm ty ex bd.length el.length = true) (hx : penEs ex (d + 1) = some xs) : penS (.mk k p nm ty ex bd el) d = some (shapeS k nm ty xs) := by
  rw [penS, if_pos hh, hx]; exact if_neg hk
theorem penS_head {k : Int} (hh : ¬ stHead k nm ty ex bd.length el.length = true) : penS (.mk k p nm ty ex bd el) d = none := by rw [penS, if_neg hh]
theorem penS_exprs {k : Int} (hx : penEs ex (d + 1) = none) : penS (.mk k p nm ty ex bd el) d = none := by
  rw [penS, hx]; split <;> rfl
theorem penEs_one (a : Ex) (D : Int) : penEs [a] D = (penE a D 0).map fun x => [x] := by
  rw [penEs, penEs]; cases penE a D 0 <;> rfl
theorem penEs_two (a b : Ex) (D : Int) : penEs [a, b] D = match penE a D 0 with | none => none | some x => match penE b D 0 with | none => none | some y => some [x, y] := by
  rw [penEs, penEs_one]; cases penE a D 0 <;> cases penE b D 0 <;> rfl
theorem penS_lock (k : Int) (hk : k = 5 ∨ k = 6) : penS (.mk k p nm ty ex bd el) d = cat (need (nameB nm = true) (some [])) (cat (some [wordS k, nm, [59]]) (need (ty = [] ∧ ex.length = 0 ∧ bd.length = 0 ∧ el.length = 0) (some []))) := by
  by_cases h1 : nameB nm = true
  · by_cases h2 : ty = [] ∧ ex.length = 0 ∧ bd.length = 0 ∧ el.length = 0
    · rw [need_yes h1, need_yes h2]
      obtain ⟨h2, h3, h4, h5⟩ := h2
      obtain rfl := List.eq_nil_of_length_eq_zero h3
      rcases hk with h | h <;> subst h <;> (rw [penS_plain p nm ty [] bd el d (xs := []) (by decide) (by simp [stHead, h1, h2, h4, h5]) rfl]; simp [shapeS, cat])
    · rw [need_no h2, cat_none_r, cat_none_r, penS_head]
      intro h
      rcases hk with h' | h' <;> subst h' <;> exact h2 (by simp [stHead] at h; simp; exact h.2)
  · rw [need_no h1, cat_none_l, penS_head]
    intro h
    rcases hk with h' | h' <;> subst h' <;> exact h1 (by simp [stHead] at h; exact h.1)
theorem penS_send (k : Int) (hk : k = 7 ∨ k = 9) : penS (.mk k p nm ty ex bd el) d = cat (need (nameB nm = true) (some [])) (cat (some [wordS k, nm]) (cat (argC ex d [[59]]) (need (ty = [] ∧ ex.tail.length = 0 ∧ bd.length = 0 ∧ el.length = 0) (some [])))) := by
  by_cases h1 : nameB nm = true
  · by_cases h2 : ty = [] ∧ bd.length = 0 ∧ el.length = 0
    · match ex with
      | [] =>
        rw [show argC [] d [[59]] = none from rfl, cat_none_l, cat_none_r, cat_none_r, penS_head]
        intro h
        rcases hk with h' | h' <;> subst h' <;> simp [stHead] at h
      | [a] =>
        rw [need_yes h1, need_yes ⟨h2.1, rfl, h2.2⟩]
        simp only [argC]
        have hx := penEs_one a (d + 1)
        cases ha : penE a (d + 1) 0 with
        | none => rw [ha] at hx; exact penS_exprs p nm ty [a] bd el d hx
        | some x =>
          rw [ha] at hx
          rcases hk with h | h <;> subst h <;> (rw [penS_plain p nm ty [a] bd el d (xs := [x]) (by decide) (by simp [stHead, h1, h2]) hx]; simp [shapeS, cat])
      | a :: b :: r =>
        rw [need_no (p := ty = [] ∧ (a :: b :: r).tail.length = 0 ∧ bd.length = 0 ∧ el.length = 0) (by simp), cat_none_r, cat_none_r, cat_none_r, penS_head]
        intro h
        rcases hk with h' | h' <;> subst h' <;> simp [stHead] at h
    · rw [need_no (p := ty = [] ∧ ex.tail.length = 0 ∧ bd.length = 0 ∧ el.length = 0) (fun h => h2 ⟨h.1, h.2.2⟩), cat_none_r, cat_none_r, cat_none_r, penS_head]
      intro h
      rcases hk with h' | h' <;> subst h' <;> exact h2 (by simp [stHead] at h; simp; exact ⟨h.2.1, h.2.2.2⟩)
  · rw [need_no h1, cat_none_l, penS_head]
    intro h
    rcases hk with h' | h' <;> subst h' <;> exact h1 (by simp [stHead] at h; exact h.1)
theorem penS_8 : penS (.mk 8 p nm ty ex bd el) d = cat (need (nameB nm = true) (some [])) (cat (need (nameB ty = true) (some [])) (cat (some [wordS 8, nm, ty, [59]]) (need (ex.length = 0 ∧ bd.length = 0 ∧ el.length = 0) (some [])))) := by
  by_cases h1 : nameB nm = true
  · by_cases h0 : nameB ty = true
    · by_cases h2 : ex.length = 0 ∧ bd.length = 0 ∧ el.length = 0
      · rw [need_yes h1, need_yes h0, need_yes h2]
        obtain ⟨h3, h4, h5⟩ := h2
        obtain rfl := List.eq_nil_of_length_eq_zero h3
        rw [penS_plain p nm ty [] bd el d (xs := []) (by decide) (by simp [stHead, h1, h0, h4, h5]) rfl]; simp [shapeS, cat]
      · rw [need_no h2, cat_none_r, cat_none_r, cat_none_r, penS_head]
        intro h
        exact h2 (by simp [stHead] at h; simp; exact h.2.2)
    · rw [need_no h0, cat_none_l, cat_none_r, penS_head]
      intro h
      exact h0 (by simp [stHead] at h; exact h.2.1)
  · rw [need_no h1, cat_none_l, penS_head]
    intro h
    exact h1 (by simp [stHead] at h; exact h.1)
theorem penS_1 : penS (.mk 1 p nm ty ex bd el) d = cat (need (nameB nm = true) (some [])) (cat (some [wordS 1, nm]) (cat (tyT ty) (cat (some [[61]]) (cat (argC ex d [[59]]) (need (ex.tail.length = 0 ∧ bd.length = 0 ∧ el.length = 0) (some [])))))) := by
  by_cases h1 : nameB nm = true
  · cases hty : tyT ty with
    | none =>
      rw [cat_none_l, cat_none_r, cat_none_r, penS_head]
      intro h
      simp [stHead, hty] at h
    | some tt =>
      by_cases h2 : bd.length = 0 ∧ el.length = 0
      · match ex with
        | [] =>
          rw [show argC [] d [[59]] = none from rfl, cat_none_l, cat_none_r, cat_none_r, cat_none_r, cat_none_r, penS_head]
          intro h
          simp [stHead] at h
        | [a] =>
          rw [need_yes h1, need_yes ⟨rfl, h2⟩]
          simp only [argC]
          have hx := penEs_one a (d + 1)
          cases ha : penE a (d + 1) 0 with
          | none => rw [ha] at hx; exact penS_exprs p nm ty [a] bd el d hx
          | some x =>
            rw [ha] at hx
            rw [penS_plain p nm ty [a] bd el d (xs := [x]) (by decide) (by simp [stHead, h1, h2, hty]) hx]; simp [shapeS, cat, hty]
        | a :: b :: r =>
          rw [need_no (p := (a :: b :: r).tail.length = 0 ∧ bd.length = 0 ∧ el.length = 0) (by simp), cat_none_r, cat_none_r, cat_none_r, cat_none_r, cat_none_r, penS_head]
          intro h
          simp [stHead] at h
      · rw [need_no (p := ex.tail.length = 0 ∧ bd.length = 0 ∧ el.length = 0) (fun h => h2 h.2), cat_none_r, cat_none_r, cat_none_r, cat_none_r, cat_none_r, penS_head]
        intro h
        exact h2 (by simp [stHead] at h; simp; exact h.2.2.2)
  · rw [need_no h1, cat_none_l, penS_head]
    intro h
    exact h1 (by simp [stHead] at h; exact h.1)
theorem penS_2 : penS (.mk 2 p nm ty ex bd el) d = cat (need (placeB ex) (some [])) (cat (some [wordS 2]) (cat (argC ex d [[61]]) (cat (argC ex.tail d [[59]]) (need (nm = [] ∧ ty = [] ∧ ex.tail.tail.length = 0 ∧ bd.length = 0 ∧ el.length = 0) (some []))))) := by
  have hpl : stHead 2 nm ty ex bd.length el.length = true ↔ (nm = [] ∧ ty = [] ∧ ex.length = 2 ∧ bd.length = 0 ∧ el.length = 0) ∧ placeB ex := by
    cases ex with
    | nil => simp [stHead, placeB]
    | cons a r => simp [stHead, placeB]
  by_cases h1 : placeB ex
  · by_cases h2 : nm = [] ∧ ty = [] ∧ bd.length = 0 ∧ el.length = 0
    · match ex, h1, hpl with
      | [], h1, _ => exact h1.elim
      | [a], h1, hpl =>
        rw [show argC [a].tail d [[59]] = none from rfl, cat_none_l, cat_none_r, cat_none_r, cat_none_r, penS_head]
        intro h
        have := (hpl.1 h).1.2.2.1
        simp at this
      | [a, b], h1, hpl =>
        rw [need_yes h1, need_yes ⟨h2.1, h2.2.1, rfl, h2.2.2⟩]
        simp only [argC, List.tail_cons]
        have hx := penEs_two a b (d + 1)
        cases ha : penE a (d + 1) 0 with
        | none => rw [ha] at hx; exact penS_exprs p nm ty [a, b] bd el d hx
        | some x =>
          cases hb : penE b (d + 1) 0 with
          | none => rw [ha, hb] at hx; exact penS_exprs p nm ty [a, b] bd el d hx
          | some y =>
            rw [ha, hb] at hx
            rw [penS_plain p nm ty [a, b] bd el d (xs := [x, y]) (by decide) (hpl.2 ⟨⟨h2.1, h2.2.1, rfl, h2.2.2⟩, h1⟩) hx]; simp [shapeS, cat]
      | a :: b :: c :: r, h1, hpl =>
        rw [need_no (p := nm = [] ∧ ty = [] ∧ (a :: b :: c :: r).tail.tail.length = 0 ∧ bd.length = 0 ∧ el.length = 0) (by simp), cat_none_r, cat_none_r, cat_none_r, cat_none_r, penS_head]
        intro h
        have := (hpl.1 h).1.2.2.1
        simp at this
    · rw [need_no (p := nm = [] ∧ ty = [] ∧ ex.tail.tail.length = 0 ∧ bd.length = 0 ∧ el.length = 0) (fun h => h2 ⟨h.1, h.2.1, h.2.2.2⟩), cat_none_r, cat_none_r, cat_none_r, cat_none_r, penS_head]
      intro h
      obtain ⟨h3, h4, _, h5⟩ := (hpl.1 h).1
      exact h2 ⟨h3, h4, h5⟩
  · rw [need_no h1, cat_none_l, penS_head]
    intro h
    exact h1 (hpl.1 h).2
theorem penS_11 : penS (.mk 11 p nm ty ex bd el) d = cat (some [wordS 11]) (cat (if ex.length = 0 then some [] else argC ex d []) (cat (some [[59]]) (need (nm = [] ∧ ty = [] ∧ ex.tail.length = 0 ∧ bd.length = 0 ∧ el.length = 0) (some [])))) := by
  by_cases h2 : nm = [] ∧ ty = [] ∧ bd.length = 0 ∧ el.length = 0
  · match ex with
    | [] =>
      rw [need_yes ⟨h2.1, h2.2.1, rfl, h2.2.2⟩, penS_plain p nm ty [] bd el d (xs := []) (by decide) (by simp [stHead, h2]) rfl]
      simp [shapeS, cat]
    | [a] =>
      rw [need_yes ⟨h2.1, h2.2.1, rfl, h2.2.2⟩, if_neg (by simp)]
      simp only [argC]
      have hx := penEs_one a (d + 1)
      cases ha : penE a (d + 1) 0 with
      | none => rw [ha] at hx; exact penS_exprs p nm ty [a] bd el d hx
      | some x =>
        rw [ha] at hx
        rw [penS_plain p nm ty [a] bd el d (xs := [x]) (by decide) (by simp [stHead, h2]) hx]; simp [shapeS, cat]
    | a :: b :: r =>
      rw [need_no (p := nm = [] ∧ ty = [] ∧ (a :: b :: r).tail.length = 0 ∧ bd.length = 0 ∧ el.length = 0) (by simp), cat_none_r, cat_none_r, cat_none_r, penS_head]
      intro h
      simp [stHead] at h
  · rw [need_no (p := nm = [] ∧ ty = [] ∧ ex.tail.length = 0 ∧ bd.length = 0 ∧ el.length = 0) (fun h => h2 ⟨h.1, h.2.1, h.2.2.2⟩), cat_none_r, cat_none_r, cat_none_r, penS_head]
    intro h
    exact h2 (by simp [stHead] at h; simp; exact ⟨h.1, h.2.1, h.2.2.2⟩)
theorem penS_3 : penS (.mk 3 p nm ty ex bd el) d = cat (some [wordS 3]) (cat (argC ex d []) (cat (penB bd (d + 1)) (cat (if el.length = 0 then some [] else cat (some [[101, 108, 115, 101]]) (penB el (d + 1))) (need (nm = [] ∧ ty = [] ∧ ex.tail.length = 0) (some []))))) := by
  by_cases h2 : nm = [] ∧ ty = []
  · match ex with
    | [] =>
      rw [show argC [] d [] = none from rfl, cat_none_l, cat_none_r, penS_head]
      intro h
      simp [stHead] at h
    | [a] =>
      rw [need_yes ⟨h2.1, h2.2, rfl⟩, cat_nil_r, penS, if_pos (by simp [stHead, h2])]
      have hx := penEs_one a (d + 1)
      simp only [argC]
      cases ha : penE a (d + 1) 0 with
      | none => rw [ha] at hx; rw [hx]; rfl
      | some x =>
        rw [ha] at hx
        rw [hx]
        simp only [Option.map_some, true_or, if_true, penB]
        generalize inBlock (d + 1) (penSs bd (d + 1)) = Q
        generalize (if el.length = 0 then some [] else cat (some [[101, 108, 115, 101]]) (inBlock (d + 1) (penSs el (d + 1)))) = R
        cases Q <;> cases R <;> simp [cat]
    | a :: b :: r =>
      rw [need_no (p := nm = [] ∧ ty = [] ∧ (a :: b :: r).tail.length = 0) (by simp), cat_none_r, cat_none_r, cat_none_r, cat_none_r, penS_head]
      intro h
      simp [stHead] at h
  · rw [need_no (p := nm = [] ∧ ty = [] ∧ ex.tail.length = 0) (fun h => h2 ⟨h.1, h.2.1⟩), cat_none_r, cat_none_r, cat_none_r, cat_none_r, penS_head]
    intro h
    exact h2 (by simp [stHead] at h; exact ⟨h.1, h.2.1⟩)
theorem penS_4 : penS (.mk 4 p nm ty ex bd el) d = cat (some [wordS 4]) (cat (argC ex d []) (cat (penB bd (d + 1)) (need (nm = [] ∧ ty = [] ∧ ex.tail.length = 0 ∧ el.length = 0) (some [])))) := by
  by_cases h2 : nm = [] ∧ ty = [] ∧ el.length = 0
  · match ex with
    | [] =>
      rw [show argC [] d [] = none from rfl, cat_none_l, cat_none_r, penS_head]
      intro h
      simp [stHead] at h
    | [a] =>
      rw [need_yes ⟨h2.1, h2.2.1, rfl, h2.2.2⟩, cat_nil_r, penS, if_pos (by simp [stHead, h2])]
      have hx := penEs_one a (d + 1)
      simp only [argC]
      cases ha : penE a (d + 1) 0 with
      | none => rw [ha] at hx; rw [hx]; rfl
      | some x =>
        rw [ha] at hx
        rw [hx]
        simp only [Option.map_some, or_true, if_true, penB, h2.2.2]
        generalize inBlock (d + 1) (penSs bd (d + 1)) = Q
        cases Q <;> simp [cat]
    | a :: b :: r =>
      rw [need_no (p := nm = [] ∧ ty = [] ∧ (a :: b :: r).tail.length = 0 ∧ el.length = 0) (by simp), cat_none_r, cat_none_r, cat_none_r, penS_head]
      intro h
      simp [stHead] at h
  · rw [need_no (p := nm = [] ∧ ty = [] ∧ ex.tail.length = 0 ∧ el.length = 0) (fun h => h2 ⟨h.1, h.2.1, h.2.2.2⟩), cat_none_r, cat_none_r, cat_none_r, penS_head]
    intro h
    exact h2 (by simp [stHead] at h; simp; exact ⟨h.1, h.2.1, h.2.2.2⟩)
theorem penEs_cons (a : Ex) (es : List Ex) (D : Int) : penEs (a :: es) D = match penE a D 0 with
    | none => none
    | some x => match penEs es D with
      | none => none
      | some xs => some (x :: xs) := by
  rw [penEs]
  cases penE a D 0 with
  | none => rfl
  | some x => cases penEs es D <;> rfl
theorem elemsC_eq : ∀ (es : List Ex) (i : Nat) (D : Int), elemsC es i D = (penEs es D).map fun xs => (if i = 0 ∨ xs = [] then [] else [[44]]) ++ commas xs
  | [], i, D => by simp [elemsC, penEs, commas]
  | [a], i, D => by
    rw [elemsC, elemsC, penEs_one, cat_nil_r]
    cases penE a D 0 with
    | none => simp [cat]
    | some x => by_cases hi : i = 0 <;> simp [cat, commas, hi]
  | a :: b :: r, i, D => by
    rw [elemsC, elemsC_eq (b :: r) (i + 1) D]
    cases ha : penE a D 0 with
    | none => rw [penEs_cons a (b :: r), ha]; simp [cat]
    | some x =>
      rw [penEs_cons a (b :: r), ha]
      cases hb : penEs (b :: r) D with
      | none => simp [cat]
      | some ys =>
        have hne : ys ≠ [] := by
          intro e
          subst e
          rw [penEs_cons] at hb
          split at hb
          · cases hb
          · split at hb <;> cases hb
        obtain ⟨y, ys', rfl⟩ := List.exists_cons_of_ne_nil hne
        by_cases hi : i = 0 <;> simp [cat, commas, hi]
theorem penS_10 : penS (.mk 10 p nm ty ex bd el) d = cat (need (nameB nm = true) (some [])) (cat (callC ty nm ex (d + 1)) (need (bd.length = 0 ∧ el.length = 0) (some []))) := by
  by_cases h1 : nameB nm = true
  · by_cases h2 : bd.length = 0 ∧ el.length = 0
    · rw [need_yes h1, need_yes h2, cat_nil_l, cat_nil_r]
      by_cases h3 : ex.length ≤ 4
      · by_cases h4 : ty = [] ∨ nameB ty = true
        · unfold callC argsC
          rw [need_yes h3, elemsC_eq]
          have hh : stHead 10 nm ty ex bd.length el.length = true := by simp [stHead, h1, h2, h3, h4]
          cases hx : penEs ex (d + 1) with
          | none => rw [penS_exprs p nm ty ex bd el d hx]; simp [cat_none_l, cat_none_r]
          | some xs =>
            rw [penS_plain p nm ty ex bd el d (by decide) hh hx]
            by_cases h5 : ty = []
            · simp [shapeS, cat, h5, wordS]
            · rw [if_neg h5, need_yes (h4.resolve_left h5)]
              simp [shapeS, cat, h5, wordS]
        · have h5 : ¬ ty = [] := fun e => h4 (.inl e)
          unfold callC
          rw [if_neg h5, need_no (fun e => h4 (.inr e)), cat_none_l, cat_none_l, cat_none_r, penS_head]
          intro h
          exact h4 (by simp [stHead] at h; exact h.2.1)
      · unfold callC argsC
        rw [need_no h3, cat_none_l, cat_none_r, cat_none_r, cat_none_r, penS_head]
        intro h
        exact h3 (by simp [stHead] at h; exact h.2.2.1)
    · rw [need_no h2, cat_none_r, cat_none_r, penS_head]
      intro h
      exact h2 (by simp [stHead] at h; simp; exact h.2.2.2)
  · rw [need_no h1, cat_none_l, penS_head]
    intro h
    exact h1 (by simp [stHead] at h; exact h.1)
theorem penS_else (k : Int) (hk : k < 1 ∨ 11 < k) : penS (.mk k p nm ty ex bd el) d = none := by
  refine penS_head p nm ty ex bd el d ?_
  unfold stHead
  rw [if_neg (show ¬ k = 1 by omega), if_neg (show ¬ k = 2 by omega), if_neg (show ¬ k = 3 by omega), if_neg (show ¬ k = 4 by omega), if_neg (show ¬ k = 5 by omega), if_neg (show ¬ k = 6 by omega), if_neg (show ¬ k = 7 by omega), if_neg (show ¬ k = 8 by omega), if_neg (show ¬ k = 9 by omega), if_neg (show ¬ k = 10 by omega), if_neg (show ¬ k = 11 by omega)]
  simp
end

end Go.Proofs.YtmbkjabjcphkbaaDoor
end
section
/- The frame of a statement's writer and its closures. -/
set_option linter.unusedVariables false
namespace Go.Proofs.YtmbkjabjcphkbaaDoor
open Go.RowKit

/-- the statements ss, which lie at the slice V, are written as a block wherever the blocks below B are as in w0 -/
def WritesB (w0 : World) (B : Nat) (ss : List Sm) (V : Value) : Prop :=
  ∀ (w : World) (Bc Ba : Nat) (u : Value) (T : List (List UInt8)) (d : Int), Below B w0 w → B ≤ w.heap.size → PenAt w Bc Ba B u T → 0 ≤ d → d ≤ 100 →
    Calls Tryd.prog 90 #[penV Bc Ba, V, .int .i64 d] w (PenPost w Bc Ba B u (adv T (penB ss d)))
/-- the variables of a statement's writer -/
structure StFr (w : World) (g Bc Ba : Nat) (k p : Int) (nm ty : List UInt8) (V bv ev : Value) (d : Int) : Prop where
  put : w.heap[g]? = some (.cells #[penV Bc Ba] 63 (0, 0))
  sm : SmBlk w (g + 1) k p (strOf nm) (strOf ty) V bv ev
  dp : w.heap[g + 1 + 1]? = some (.cells #[.int .i64 d] 3 (0, 0))
def InSt (g b : Nat) : Prop := b = g ∨ b = g + 1 ∨ b = g + 1 + 1
section
variable {w w' w1 w2 : World} {g Bc Ba B : Nat} {k p : Int} {nm ty : List UInt8} {V bv ev u v1 : Value} {d : Int} {T T1 : List (List UInt8)}
theorem StFr.pc (h : StFr w g Bc Ba k p nm ty V bv ev d) : w.cell? ⟨g, 0, none⟩ = some (.func (.func 47) #[] #[.pointer (some ⟨Bc, 0, none⟩), .pointer (some ⟨Ba, 0, none⟩)]) := by
  rw [cell_of_row w g 0 _ _ (0, 0) h.put]; rfl
theorem StFr.dc (h : StFr w g Bc Ba k p nm ty V bv ev d) : w.cell? ⟨g + 1 + 1, 0, none⟩ = some (.int .i64 d) := by
  rw [cell_of_row w (g + 1 + 1) 0 _ _ (0, 0) h.dp]; rfl
theorem StFr.apart (h : StFr w g Bc Ba k p nm ty V bv ev d) (hp : PenAt w Bc Ba B u T) (h1 : Bc < g) (h2 : Ba < g) {b : Nat} (hb : InSt g b) : ¬ Mine Bc Ba u b := by
  rintro (e | e | e)
  · rcases hb with hb | hb | hb <;> omega
  · rcases hb with hb | hb | hb <;> omega
  · obtain ⟨_, cur, hg⟩ := hp.own.blk e
    rcases hb with rfl | rfl | rfl
    · rw [h.put] at hg; simp at hg
    · have := h.sm; unfold SmBlk at this; rw [this] at hg; simp at hg
    · rw [h.dp] at hg; simp at hg
theorem StFr.lt (h : StFr w g Bc Ba k p nm ty V bv ev d) {b : Nat} (hb : InSt g b) : b < w.heap.size := by
  rcases hb with rfl | rfl | rfl
  · exact lt_of_heap h.put
  · exact lt_of_heap h.sm
  · exact lt_of_heap h.dp
theorem StFr.keep (h : StFr w g Bc Ba k p nm ty V bv ev d) (hk : ∀ b, InSt g b → w'.heap[b]? = w.heap[b]?) : StFr w' g Bc Ba k p nm ty V bv ev d :=
  ⟨(hk _ (.inl rfl)).trans h.put, (hk _ (.inr (.inl rfl))).trans h.sm, (hk _ (.inr (.inr rfl))).trans h.dp⟩
theorem StFr.below (h : StFr w g Bc Ba k p nm ty V bv ev d) (hb : Below w.heap.size w w') : StFr w' g Bc Ba k p nm ty V bv ev d := h.keep fun b hb' => hb.block b (h.lt hb')
theorem StFr.drew (h : StFr w g Bc Ba k p nm ty V bv ev d) : StFr w.drew g Bc Ba k p nm ty V bv ev d := h.keep fun _ _ => rfl
theorem StFr.went (h : StFr w g Bc Ba k p nm ty V bv ev d) (hp : PenAt w Bc Ba B u T) (h1 : Bc < g) (h2 : Ba < g) (hw : Went w Bc Ba B u w1 v1 T1) : StFr w1 g Bc Ba k p nm ty V bv ev d :=
  h.keep fun b hb => hw.2.2.block b (h.lt hb) (h.apart hp h1 h2 hb)
theorem StFr.set2 (h : StFr w g Bc Ba k p nm ty V bv ev d) (t : List UInt8) : StFr (w.setCell ⟨g + 1, 2, none⟩ (.string (strOf t))) g Bc Ba k p t ty V bv ev d := by
  refine ⟨(Below.heap_setCell _ _ _ _ (show g ≠ g + 1 by omega)).trans h.put, ?_, (Below.heap_setCell _ _ _ _ (show g + 1 + 1 ≠ g + 1 by omega)).trans h.dp⟩
  have := h.sm
  unfold SmBlk at this ⊢
  simp [World.setCell, Array.getElem?_modify, this]
theorem StFr.set3 (h : StFr w g Bc Ba k p nm ty V bv ev d) (t : List UInt8) : StFr (w.setCell ⟨g + 1, 3, none⟩ (.string (strOf t))) g Bc Ba k p nm t V bv ev d := by
  refine ⟨(Below.heap_setCell _ _ _ _ (show g ≠ g + 1 by omega)).trans h.put, ?_, (Below.heap_setCell _ _ _ _ (show g + 1 + 1 ≠ g + 1 by omega)).trans h.dp⟩
  have := h.sm
  unfold SmBlk at this ⊢
  simp [World.setCell, Array.getElem?_modify, this]
theorem StFr.set4 (h : StFr w g Bc Ba k p nm ty V bv ev d) (X : Value) : StFr (w.setCell ⟨g + 1, 4, none⟩ X) g Bc Ba k p nm ty X bv ev d := by
  refine ⟨(Below.heap_setCell _ _ _ _ (show g ≠ g + 1 by omega)).trans h.put, ?_, (Below.heap_setCell _ _ _ _ (show g + 1 + 1 ≠ g + 1 by omega)).trans h.dp⟩
  have := h.sm
  unfold SmBlk at this ⊢
  simp [World.setCell, Array.getElem?_modify, this]
theorem StFr.set5 (h : StFr w g Bc Ba k p nm ty V bv ev d) (X : Value) : StFr (w.setCell ⟨g + 1, 5, none⟩ X) g Bc Ba k p nm ty V X ev d := by
  refine ⟨(Below.heap_setCell _ _ _ _ (show g ≠ g + 1 by omega)).trans h.put, ?_, (Below.heap_setCell _ _ _ _ (show g + 1 + 1 ≠ g + 1 by omega)).trans h.dp⟩
  have := h.sm
  unfold SmBlk at this ⊢
  simp [World.setCell, Array.getElem?_modify, this]
theorem StFr.set6 (h : StFr w g Bc Ba k p nm ty V bv ev d) (X : Value) : StFr (w.setCell ⟨g + 1, 6, none⟩ X) g Bc Ba k p nm ty V bv X d := by
  refine ⟨(Below.heap_setCell _ _ _ _ (show g ≠ g + 1 by omega)).trans h.put, ?_, (Below.heap_setCell _ _ _ _ (show g + 1 + 1 ≠ g + 1 by omega)).trans h.dp⟩
  have := h.sm
  unfold SmBlk at this ⊢
  simp [World.setCell, Array.getElem?_modify, this]
end
theorem Chg.put9 {P : Nat → Prop} {w w1 : World} {X : Value} {p : Addr} (hP : P p.block) (h2 : Below w.heap.size (w.setCell p X) w1) : Chg P w w1 := Chg.put_ (p := p) (Below.refl _ w) hP h2
/-- how expr() of a statement's writer ends: rest: what is left of the expressions -/
def StPost (w0 w : World) (g Bc Ba B : Nat) (u : Value) (k p : Int) (nm ty : List UInt8) (bv ev : Value) (d : Int) (rest : List Ex) (R : Ts) (e : Ending) (w' : World) : Prop := match R with
  | none => e = boom ∧ Chg (fun b => Mine Bc Ba u b ∨ b = g + 1) w w'
  | some T' => e = .returned (.tuple #[]) ∧ ∃ u' V', PenAt w' Bc Ba B u' T' ∧ (∀ b, u'.ownBlock = some b → u.ownBlock = some b ∨ w.heap.size ≤ b) ∧ Chg (fun b => Mine Bc Ba u b ∨ b = g + 1) w w' ∧
      StFr w' g Bc Ba k p nm ty V' bv ev d ∧ Reads w0 B rest V'

theorem ste_yes {w0 w : World} {g Bc Ba B : Nat} {u : Value} {T : List (List UInt8)} {k p : Int} {nm ty : List UInt8} {V bv ev : Value} {d : Int} {e : Ex} {es : List Ex} (hb : Below B w0 w) (hB : B ≤ g) (hg1 : Bc < g) (hg2 : Ba < g) (hp : PenAt w Bc Ba B u T)
    (hf : StFr w g Bc Ba k p nm ty V bv ev d) (hr : Reads w0 B (e :: es) V) (hd0 : 0 ≤ d) (hd : d ≤ 50) (ts : List (List UInt8)) (tv : Value) (hts : StrsAt w (fun b => Mine Bc Ba u b ∨ b = g + 1) tv ts) :
    Calls Tryd.prog 132 #[tv, .pointer (some ⟨g, 0, none⟩), .pointer (some ⟨g + 1, 0, none⟩), .pointer (some ⟨g + 1 + 1, 0, none⟩)] w (StPost w0 w g Bc Ba B u k p nm ty bv ev d es (adv T (cat (penE e (d + 1) 0) (some ts)))) := by
  obtain ⟨A, c, rfl, hc, hM, hA⟩ := hr
  obtain ⟨b, off, A5, n5, c5, rfl, hbB, hnm, r0, r1, r2, r3, r4, hWr⟩ := hA 0 (by simp)
  have hrt := hA
  have q0 := cell_of_row w g 0 _ _ (0, 0) hf.put
  have q1 := cell_of_row w (g + 1 + 1) 0 _ _ (0, 0) hf.dp
  have q4 := hf.sm.c4
  have z4 := hf.sm.fr 4
  have up : ∀ {i : Nat} {v : Value}, w0.cell? ⟨b, i, none⟩ = some v → w.cell? ⟨b, i, none⟩ = some v := fun h => (hb.cell hbB).trans h
  have r0 := up r0
  have r1 := up r1
  have r2 := up r2
  have r3 := up r3
  have r4 := up r4
  rw [Nat.zero_mul, Nat.add_zero] at r0 r1 r2 r3 r4
  simp only [List.getElem_cons_zero] at r0 r1 r2 r3 r4 hWr hnm
  have htf := takeFirst_yes ⟨g + 1, 4, none⟩ b off es.length c w.drew _ _ _ _ _ _ _ q4 z4 hc r0 r1 r2 r3 r4
  unfold penV at q0
  simp at q0 q1
  have hwr : IntKind.i64.wrap (d + 1) = d + 1 := IntWalk.i64_in _ ⟨by omega, by omega⟩
  have HTF := Lib.hid htf
  have HWR := Lib.hid hWr
  clear htf hWr r0 r1 r2 r3 r4 q4 z4 hA
  go_enter Tryd.func132, Tryd.ntmps132
  go_wp2_with fail
  refine wp_region_held_drew (S := fun w' => w'.cell? ⟨g, 0, none⟩ = some (.func (.func 47) #[] #[.pointer (some ⟨Bc, 0, none⟩), .pointer (some ⟨Ba, 0, none⟩)]) ∧ w'.cell? ⟨g + 1 + 1, 0, none⟩ = some (.int .i64 d)) (by kernel_rfl) ⟨q0, q1⟩ (fun hHeld => ?_)
  refine wpAnyH_take (i := 0) (oi := _) (v := .func (.func 47) #[] #[.pointer (some ⟨Bc, 0, none⟩), .pointer (some ⟨Ba, 0, none⟩)]) rfl (by kernel_rfl) (by kernel_rfl) (by kernel_rfl) (fun _ _ _ h => h) (Or.inl ⟨by rfl, fun w hS => ?_⟩) hHeld ?_
  · obtain ⟨h1, h2⟩ := hS
    go_simp
  simp only [Act.put]
  refine wpAnyH_take (i := 1) (oi := _) (v := .pointer (some ⟨g + 1, 4, none⟩)) rfl (by kernel_rfl) (by kernel_rfl) (by kernel_rfl) (fun _ _ _ h => h) (Or.inl ⟨by rfl, fun w hS => ?_⟩) hHeld ?_
  · go_simp
  simp only [Act.put]
  refine wpAnyH_take (i := 3) (oi := _) (v := .int .i64 d) rfl (by kernel_rfl) (by kernel_rfl) (by kernel_rfl) (fun _ _ _ h => h) (Or.inl ⟨by rfl, fun w hS => ?_⟩) hHeld ?_
  · obtain ⟨h1, h2⟩ := hS
    go_simp
  simp only [Act.put]
  refine wpAnyH_take (i := 4) (oi := _) (v := .int .i64 (d + 1)) rfl (by kernel_rfl) (by kernel_rfl) (by kernel_rfl) (fun _ _ _ h => h) (Or.inl ⟨by rfl, fun w hS => ?_⟩) hHeld ?_
  · go_simp
  simp only [Act.put]
  refine wpAnyH_ready (rs := [2]) (by kernel_rfl) (by simp) ?_
  refine AllReadyH.cons rfl (fun K hK => ?_) AllReadyH.nil
  go_simp
  refine HTF.out.mono ?_
  rintro e1 w1 ⟨rfl, wm, off', hbm, hbm2, ho⟩
  have hdr : Below w.heap.size w w.drew := Below.drew (Below.refl _ w)
  have hbm : Below w.heap.size w wm := hdr.trans hbm
  have hbm2 : Below w.heap.size (wm.setCell ⟨g + 1, 4, none⟩ (.slice (some ⟨b, off', none⟩) es.length (c - 1))) w1 := hbm2
  have hnm1 := hf.apart hp hg1 hg2 (b := g + 1) (.inr (.inl rfl))
  have hf1 : StFr w1 g Bc Ba k p nm ty (.slice (some ⟨b, off', none⟩) es.length (c - 1)) bv ev d := ((hf.below hbm).set4 _).keep fun x hx => hbm2.block x (hf.lt hx)
  have hp1 : PenAt w1 Bc Ba B u T := hp.put_ (p := ⟨g + 1, 4, none⟩) hbm hnm1 hbm2
  have hch1 : Chg (fun b => Mine Bc Ba u b ∨ b = g + 1) w w1 := Chg.put_ (p := ⟨g + 1, 4, none⟩) hbm (.inr rfl) hbm2
  have hBw : B ≤ w.heap.size := Nat.le_trans hB (Nat.le_of_lt (hf.lt (.inl rfl)))
  have hmB : ∀ x, (Mine Bc Ba u x ∨ x = g + 1) → B ≤ x := fun x hx => by
    rcases hx with hx | hx
    · exact (hp.mine hx).1
    · omega
  have hb1 : Below B w0 w1 := hb.trans (hch1.below hBw hmB)
  have hr1 := Reads.tail (off' := off') (c := c) ⟨_, _, rfl, hc, hM, hrt⟩ ho
  have k0 := cell_of_row w1 g 0 _ _ (0, 0) hf1.put
  have k1 := cell_of_row w1 (g + 1 + 1) 0 _ _ (0, 0) hf1.dp
  unfold penV at k0
  simp at k0 k1
  have HF1 := Lib.hid hf1
  have HP1 := Lib.hid hp1
  have HC1 := Lib.hid hch1
  have HR1 := Lib.hid hr1
  have hcall := HWR.out w1 Bc Ba u T (d + 1) 0 hb1 (Nat.le_trans hBw hch1.size) hp1 (by omega) (by omega) (by omega) (by omega)
  have hs1 : StrsAt w1 (fun b => Mine Bc Ba u b ∨ b = g + 1) tv ts := by
    obtain ⟨A, c, h1, h2, h3, h4⟩ := hts
    exact ⟨A, c, h1, h2, h3, fun k hk => let ⟨b, off, x1, x2, x3, x4⟩ := h4 k hk; ⟨b, off, x1, x2, x3, hch1.cell x4 x2⟩⟩
  have HS1 := Lib.hid hs1
  have HCALL := Lib.hid hcall
  clear hf1 hp1 hch1 hr1 hcall hs1 hrt hts hbm hbm2 hdr
  go_wp2_with fail
  refine hK.out _ _ ⟨k0, k1⟩ (fun hHeld => ?_)
  clear hK K
  refine wpAnyH_ready (rs := [5]) (by kernel_rfl) (by simp) ?_
  refine AllReadyH.cons rfl (fun K hK => ?_) AllReadyH.nil
  go_simp
  refine HCALL.out.mono ?_
  rintro e2 w2 hpost
  cases hR : adv T (penE e (d + 1) 0) with
  | none =>
    rw [hR] at hpost
    obtain ⟨rfl, hch2⟩ := hpost
    have HR := Lib.hid (adv_cat_none hR (some ts))
    have hch : Chg (fun b => Mine Bc Ba u b ∨ b = g + 1) w w2 := HC1.out.trans hch2 (fun x _ hx => .inl hx)
    have HCH := Lib.hid hch
    clear hR hch2 hch
    unfold boom
    go_wp2
    refine ⟨rfl, ?_⟩
    rw [HR.out]
    exact ⟨rfl, HCH.out⟩
  | some T2 =>
    rw [hR] at hpost
    obtain ⟨rfl, u2, hwent⟩ := hpost
    have HEQ := Lib.hid (adv_cat_some hR (some ts))
    have hf2 := HF1.out.went HP1.out hg1 hg2 hwent
    have hs2 := HS1.out.went hwent
    have k02 := cell_of_row w2 g 0 _ _ (0, 0) hf2.put
    have k12 := cell_of_row w2 (g + 1 + 1) 0 _ _ (0, 0) hf2.dp
    unfold penV at k02
    simp at k02 k12
    have hB2 : B ≤ w2.heap.size := Nat.le_trans (Nat.le_trans hBw HC1.out.size) hwent.2.2.size
    have hput := put_any hwent.1 hB2 ts tv hs2
    have HPUT := Lib.hid hput
    have HW2 := Lib.hid hwent
    have HF2 := Lib.hid hf2
    clear hwent hf2 hs2 hput hR k0 k1
    go_wp2_with fail
    refine hK.out _ _ ⟨k02, k12⟩ (fun hHeld => ?_)
    clear hK K
    refine wpAnyH_done (by kernel_rfl) ?_ _
    go_wp2_with fail
    refine HPUT.out.mono ?_
    rintro e3 w3 hpost
    cases hR : adv T2 (some ts) with
    | none =>
      rw [hR] at hpost
      obtain ⟨rfl, hch3⟩ := hpost
      have HR := Lib.hid (HEQ.out.trans hR)
      have hch : Chg (fun b => Mine Bc Ba u b ∨ b = g + 1) w w3 := HC1.out.trans (HW2.out.fell hch3) (fun x _ hx => .inl hx)
      have HCH := Lib.hid hch
      clear hR hch3 hch
      unfold boom
      go_wp2
      refine ⟨rfl, ?_⟩
      rw [HR.out]
      exact ⟨rfl, HCH.out⟩
    | some T3 =>
      rw [hR] at hpost
      obtain ⟨rfl, u3, hwent⟩ := hpost
      have HR := Lib.hid (HEQ.out.trans hR)
      have hf3 := HF2.out.went HW2.out.1 hg1 hg2 hwent
      have hw13 := HW2.out.trans hwent
      have HW13 := Lib.hid hw13
      have HF3 := Lib.hid hf3
      have HSZ := Lib.hid HC1.out.size
      clear hwent hf3 hw13 hR
      go_wp2
      go_end0
      rw [HR.out]
      refine ⟨rfl, u3, _, HW13.out.1, fun x hx => ?_, HC1.out.trans HW13.out.2.2 (fun x _ hx => .inl hx), HF3.out, HR1.out⟩
      rcases HW13.out.2.1 x hx with h | h
      · exact .inl h
      · exact .inr (Nat.le_trans HSZ.out h)


theorem ste_no {w0 w : World} {g Bc Ba B : Nat} {u : Value} {T : List (List UInt8)} {k p : Int} {nm ty : List UInt8} {V bv ev : Value} {d : Int} (hb : Below B w0 w) (hB : B ≤ g) (hg1 : Bc < g) (hg2 : Ba < g) (hp : PenAt w Bc Ba B u T)
    (hf : StFr w g Bc Ba k p nm ty V bv ev d) (hr : Reads w0 B [] V) (hd0 : 0 ≤ d) (hd : d ≤ 50) (ts : List (List UInt8)) (tv : Value) (hts : StrsAt w (fun b => Mine Bc Ba u b ∨ b = g + 1) tv ts) :
    Calls Tryd.prog 132 #[tv, .pointer (some ⟨g, 0, none⟩), .pointer (some ⟨g + 1, 0, none⟩), .pointer (some ⟨g + 1 + 1, 0, none⟩)] w (StPost w0 w g Bc Ba B u k p nm ty bv ev d [] none) := by
  obtain ⟨A, c, rfl, hc, hM, hA⟩ := hr
  have q0 := cell_of_row w g 0 _ _ (0, 0) hf.put
  have q1 := cell_of_row w (g + 1 + 1) 0 _ _ (0, 0) hf.dp
  have q4 := hf.sm.c4
  have htf := takeFirst_no ⟨g + 1, 4, none⟩ A c w.drew q4
  unfold penV at q0
  simp at q0 q1
  have hwr : IntKind.i64.wrap (d + 1) = d + 1 := IntWalk.i64_in _ ⟨by omega, by omega⟩
  have HTF := Lib.hid htf
  clear htf q4
  go_enter Tryd.func132, Tryd.ntmps132
  go_wp2_with fail
  refine wp_region_held_drew (S := fun w' => w'.cell? ⟨g, 0, none⟩ = some (.func (.func 47) #[] #[.pointer (some ⟨Bc, 0, none⟩), .pointer (some ⟨Ba, 0, none⟩)]) ∧ w'.cell? ⟨g + 1 + 1, 0, none⟩ = some (.int .i64 d)) (by kernel_rfl) ⟨q0, q1⟩ (fun hHeld => ?_)
  refine wpAnyH_take (i := 0) (oi := _) (v := .func (.func 47) #[] #[.pointer (some ⟨Bc, 0, none⟩), .pointer (some ⟨Ba, 0, none⟩)]) rfl (by kernel_rfl) (by kernel_rfl) (by kernel_rfl) (fun _ _ _ h => h) (Or.inl ⟨by rfl, fun w hS => ?_⟩) hHeld ?_
  · obtain ⟨h1, h2⟩ := hS
    go_simp
  simp only [Act.put]
  refine wpAnyH_take (i := 1) (oi := _) (v := .pointer (some ⟨g + 1, 4, none⟩)) rfl (by kernel_rfl) (by kernel_rfl) (by kernel_rfl) (fun _ _ _ h => h) (Or.inl ⟨by rfl, fun w hS => ?_⟩) hHeld ?_
  · go_simp
  simp only [Act.put]
  refine wpAnyH_take (i := 3) (oi := _) (v := .int .i64 d) rfl (by kernel_rfl) (by kernel_rfl) (by kernel_rfl) (fun _ _ _ h => h) (Or.inl ⟨by rfl, fun w hS => ?_⟩) hHeld ?_
  · obtain ⟨h1, h2⟩ := hS
    go_simp
  simp only [Act.put]
  refine wpAnyH_take (i := 4) (oi := _) (v := .int .i64 (d + 1)) rfl (by kernel_rfl) (by kernel_rfl) (by kernel_rfl) (fun _ _ _ h => h) (Or.inl ⟨by rfl, fun w hS => ?_⟩) hHeld ?_
  · go_simp
  simp only [Act.put]
  refine wpAnyH_ready (rs := [2]) (by kernel_rfl) (by simp) ?_
  refine AllReadyH.cons rfl (fun K hK => ?_) AllReadyH.nil
  go_simp
  refine HTF.out.mono ?_
  rintro e1 w1 ⟨rfl, hbm⟩
  have HB := Lib.hid hbm
  clear hbm
  unfold boom
  go_wp2
  refine ⟨rfl, rfl, ?_⟩
  exact Chg.of_below ((Below.drew (Below.refl _ w)).trans HB.out)


end Go.Proofs.YtmbkjabjcphkbaaDoor
end
