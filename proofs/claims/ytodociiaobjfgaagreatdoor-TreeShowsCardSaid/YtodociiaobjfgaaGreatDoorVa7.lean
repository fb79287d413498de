/- Vp -/
import Derived.Test.YtodociiaobjfgaaGreatDoorVb0
set_option linter.unusedVariables false
set_option linter.unusedSimpArgs false
namespace Go.Proofs.YtodociiaobjfgaaGreatDoor
open Go.RowKit
set_option maxRecDepth 100000 in
set_option maxHeartbeats 2000000 in
theorem Xrv {w0 w : World} {Bc Ba B : Nat} {u : Value} {T : List (List UInt8)} {p n : Int} {s : List UInt8} {r : Value} {args : List Ex} {d ch : Int} (hb : Below B w0 w) (hB : B ≤ w.heap.size) (hp : Xap w Bc Ba B u T) (hd0 : 0 ≤ d) (hd : d ≤ 24) (hc0 : 0 ≤ ch) (hr : Xbd w0 B args r) (hs : s.length ≤ 40000) (htab : Lib.TabBelow Tryz.prog B w0 "internal/strconv.uint64pow10" .u64 Lib.pow10Tab) (hq : 0 ≤ n ∧ n ≤ 999999999999999999) :
  Calls Tryz.prog 70 #[penV Bc Ba, .agg #[.int .i64 1, .int .i64 p, .int .i64 n, .string (Xaa s), r], .int .i64 d, .int .i64 ch] w (Xal w Bc Ba B u (adv T (penE (.mk 1 p n s args) d ch))) := by
 have hmf : ∀ (fn : Fn) (first cap : Array Value) (w : World), (Instr.makeFunc fn first cap).run Tryz.prog w = .ok (.func fn first cap) w := fun _ _ _ _ => rfl
 obtain ⟨A, c, hrv, _, _, _⟩ := id hr
 subst hrv
 obtain ⟨X, hX⟩ : ∃ X : World, X = (((w.alloc (.cells #[penV Bc Ba] 49)).alloc (.cells #[.int .i64 1, .int .i64 p, .int .i64 n, .string (Xaa s), .slice A args.length c] 35)).alloc (.cells #[.int .i64 d] 3)).alloc (.cells #[.int .i64 ch] 3) := ⟨_, rfl⟩
 obtain ⟨g, hg⟩ : ∃ g, g = w.heap.size := ⟨_, rfl⟩
 obtain ⟨hf, hsz⟩ := Xcu hX hg
 have hw : Went w Bc Ba B u X u T := by rw [hX]; exact ((((Went.refl hp).alloc _).alloc _).alloc _).alloc _
 have e0 := hf.ex.c0
 have hg1 : Bc < g := by rw [hg]; exact Xab hp.cnt
 have hg2 : Ba < g := by rw [hg]; exact Xab hp.buf
 have hBg : B ≤ g := by rw [hg]; exact hB
 have hwg : w.heap.size ≤ g := by rw [hg]; exact Nat.le_refl _
 have hd50 : d ≤ 50 := by omega
 have HEQ := lh (congrArg (adv T) ((penE_1 p n s args d ch hd).trans (Xaw hq _)))
 have HX := lh hX
 have HG := lh hg
 have HF := lh hf
 have HW := lh hw
 have HR := lh hr
 clear hX hg hf hw hsz hr
 unfold penV at HX ⊢
 go_enter Tryz.func70, Tryz.ntmps70
 go_wp2_with fail
 rw [← HX.out, ← HG.out]
 refine (Xaj _).mono ?_
 rintro e1 w1 ⟨rfl, rfl⟩
 have pc1 := (HF.out).pc
 go_wp2_with fail
 refine wp_region_held_drew (S := fun w' => w'.cell? ⟨g, 0, none⟩ = some (.func (.func 27) #[] #[.pointer (some ⟨Bc, 0, none⟩), .pointer (some ⟨Ba, 0, none⟩)])) (by kernel_rfl) pc1 (fun hHeld => ?_)
 have HWd2 := lh ((HW.out).drew)
 have HFd2 := lh ((HF.out).drew)
 refine wpAnyH_take (i := 0) (oi := _) (v := .func (.func 27) #[] #[.pointer (some ⟨Bc, 0, none⟩), .pointer (some ⟨Ba, 0, none⟩)]) rfl (by kernel_rfl) (by kernel_rfl) (by kernel_rfl) (fun _ _ _ h => h) (Or.inl ⟨by rfl, fun w hS => ?_⟩) hHeld ?_
 · go_simp
 simp only [Act.put]
 refine wpAnyH_take (i := 1) (oi := _) (v := .pointer (some ⟨g + 1, 2, none⟩)) rfl (by kernel_rfl) (by kernel_rfl) (by kernel_rfl) (fun _ _ _ h => h) (Or.inl ⟨by rfl, fun w hS => ?_⟩) hHeld ?_
 · go_simp
 simp only [Act.put]
 refine wpAnyH_ready (rs := [2]) (by kernel_rfl) (by simp) ?_
 refine AllReadyH.cons rfl (fun K hK => ?_) AllReadyH.nil
 go_simp
 have HBD := lh (hb.trans ((HWd2.out).2.2.below hB (fun x hx => (hp.mine hx).1)))
 refine (num_yes (HFd2.out) HBD.out hBg htab hq).mono ?_
 rintro e3 w3 ⟨rfl, hch, hfr⟩
 have HW3 := lh ((HWd2.out).loc (w2 := w3) (hch) (Nat.le_succ_of_le hwg) ((HFd2.out).nm (HWd2.out).1 hg1 hg2 (.inr (.inl rfl))))
 have HF3 : Hid (ExFr w3 g Bc Ba 1 p 0 s _ d ch) := lh (hfr)
 clear hch hfr
 have hk4 := (HF3.out).pc
 go_wp2_with fail
 refine hK.out _ _ hk4 (fun hHeld => ?_)
 clear hK K
 refine wpAnyH_ready (rs := [3]) (by kernel_rfl) (by simp) ?_
 refine AllReadyH.cons rfl (fun K hK => ?_) AllReadyH.nil
 go_simp
 refine hK.out _ _ ((HF3.out).below ((Below.refl _ _).alloc (Nat.le_refl _) _)).pc (fun hHeld => ?_)
 clear hK K
 refine wpAnyH_ready (rs := [4]) (by kernel_rfl) (by simp) ?_
 refine AllReadyH.cons rfl (fun K hK => ?_) AllReadyH.nil
 go_simp
 refine (Xaq (Went.refl (HW3.out).1) (Nat.le_trans hB (HW3.out).2.2.size) [Lib.itoa n] (by intro t ht; simp at ht; rw [ht]; have := Lib.itoa_length_le n (by omega) (by omega); omega) (by simp)).mono ?_
 rintro e5 w5 hpost
 cases hR : adv T (some [Lib.itoa n]) with
 | none =>
   rw [hR] at hpost
   obtain ⟨rfl, hch⟩ := hpost
   have HNO := lh ((HEQ.out).trans (Xad hR _))
   have HCH := lh ((HW3.out).fell hch)
   clear hR hch
   unfold boom
   go_wp2
   refine ⟨rfl, ?_⟩
   rw [HNO.out]
   exact ⟨rfl, HCH.out⟩
 | some T5 =>
   rw [hR] at hpost
   obtain ⟨rfl, u5, hwent⟩ := hpost
   have HW5 := lh ((HW3.out).trans hwent)
   have HF5 := lh ((HF3.out).went (HW3.out).1 hg1 hg2 hwent)
   have HEQ5 := lh ((HEQ.out).trans (Xae hR _))
   clear hwent hR
   have hk6 := (HF5.out).pc
   go_wp2_with fail
   refine hK.out _ _ hk6 (fun hHeld => ?_)
   clear hK K
   refine wpAnyH_done (by kernel_rfl) ?_ _
   have c2 := (HF5.out).ex.c2
   have c3 := (HF5.out).ex.c3
   have c4 := (HF5.out).ex.c4
   have hz0 : (Xaa []).toList = [] := Xaf []
   obtain ⟨m, hm⟩ : ∃ m, m = (args).length := ⟨_, rfl⟩
   rw [← hm] at c4
   by_cases hs0 : s = []
   case neg =>
    have HNO := lh ((HEQ5.out).trans (show adv T5 (need _ (some [])) = none from by rw [Xag (fun h => hs0 h.1)]; rfl))
    have hs1 : ¬ (Xaa s).toList = [] := by rw [Xaf]; exact hs0
    clear hm
    clear hs0
    go_wp2_with fail
    refine (Xah _).mono ?_
    rintro e9 w9 ⟨rfl, rfl⟩
    unfold boom
    go_wp2
    refine ⟨rfl, ?_⟩
    rw [HNO.out]
    exact ⟨rfl, (HW5.out).2.2⟩
   by_cases hl0 : (args).length = 0
   case neg =>
    have HNO := lh ((HEQ5.out).trans (show adv T5 (need _ (some [])) = none from by rw [Xag (fun h => hl0 h.2)]; rfl))
    subst hs0
    have hl1 : ((m : Int) == 0) = false := by rw [beq_eq_false_iff_ne]; omega
    clear hm
    clear hl0
    go_wp2_with fail
    refine (Xah _).mono ?_
    rintro e9 w9 ⟨rfl, rfl⟩
    unfold boom
    go_wp2
    refine ⟨rfl, ?_⟩
    rw [HNO.out]
    exact ⟨rfl, (HW5.out).2.2⟩
   have HFIN := lh ((HEQ5.out).trans (show adv T5 (need _ (some [])) = some T5 from by rw [Xai ⟨hs0, hl0⟩]; exact Xbe (HW5.out).1.fit))
   subst hs0
   obtain rfl : m = 0 := by omega
   clear hm hl0
   go_wp2_with fail
   refine (Xaj _).mono ?_
   rintro e9 w9 ⟨rfl, rfl⟩
   go_wp2
   go_end0
   rw [HFIN.out]
   exact ⟨rfl, _, HW5.out⟩
set_option maxRecDepth 100000 in
set_option maxHeartbeats 2000000 in
theorem Xul {w0 w : World} {Bc Ba B : Nat} {u : Value} {T : List (List UInt8)} {p n : Int} {s : List UInt8} {r : Value} {args : List Ex} {d ch : Int} (hb : Below B w0 w) (hB : B ≤ w.heap.size) (hp : Xap w Bc Ba B u T) (hd0 : 0 ≤ d) (hd : d ≤ 24) (hc0 : 0 ≤ ch) (hr : Xbd w0 B args r) (hs : s.length ≤ 40000) (hq : ¬ (0 ≤ n ∧ n ≤ 999999999999999999)) :
  Calls Tryz.prog 70 #[penV Bc Ba, .agg #[.int .i64 1, .int .i64 p, .int .i64 n, .string (Xaa s), r], .int .i64 d, .int .i64 ch] w (Xal w Bc Ba B u (adv T (penE (.mk 1 p n s args) d ch))) := by
 have hmf : ∀ (fn : Fn) (first cap : Array Value) (w : World), (Instr.makeFunc fn first cap).run Tryz.prog w = .ok (.func fn first cap) w := fun _ _ _ _ => rfl
 obtain ⟨A, c, hrv, _, _, _⟩ := id hr
 subst hrv
 obtain ⟨X, hX⟩ : ∃ X : World, X = (((w.alloc (.cells #[penV Bc Ba] 49)).alloc (.cells #[.int .i64 1, .int .i64 p, .int .i64 n, .string (Xaa s), .slice A args.length c] 35)).alloc (.cells #[.int .i64 d] 3)).alloc (.cells #[.int .i64 ch] 3) := ⟨_, rfl⟩
 obtain ⟨g, hg⟩ : ∃ g, g = w.heap.size := ⟨_, rfl⟩
 obtain ⟨hf, hsz⟩ := Xcu hX hg
 have hw : Went w Bc Ba B u X u T := by rw [hX]; exact ((((Went.refl hp).alloc _).alloc _).alloc _).alloc _
 have e0 := hf.ex.c0
 have hg1 : Bc < g := by rw [hg]; exact Xab hp.cnt
 have hg2 : Ba < g := by rw [hg]; exact Xab hp.buf
 have hBg : B ≤ g := by rw [hg]; exact hB
 have hwg : w.heap.size ≤ g := by rw [hg]; exact Nat.le_refl _
 have hd50 : d ≤ 50 := by omega
 have HEQ := lh (congrArg (adv T) ((penE_1 p n s args d ch hd).trans (Xaz hq _)))
 have HX := lh hX
 have HG := lh hg
 have HF := lh hf
 have HW := lh hw
 have HR := lh hr
 clear hX hg hf hw hsz hr
 unfold penV at HX ⊢
 go_enter Tryz.func70, Tryz.ntmps70
 go_wp2_with fail
 rw [← HX.out, ← HG.out]
 refine (Xaj _).mono ?_
 rintro e1 w1 ⟨rfl, rfl⟩
 have HNO := HEQ
 have pc1 := (HF.out).pc
 go_wp2_with fail
 refine wp_region_held_drew (S := fun w' => w'.cell? ⟨g, 0, none⟩ = some (.func (.func 27) #[] #[.pointer (some ⟨Bc, 0, none⟩), .pointer (some ⟨Ba, 0, none⟩)])) (by kernel_rfl) pc1 (fun hHeld => ?_)
 have HWd2 := lh ((HW.out).drew)
 have HFd2 := lh ((HF.out).drew)
 refine wpAnyH_take (i := 0) (oi := _) (v := .func (.func 27) #[] #[.pointer (some ⟨Bc, 0, none⟩), .pointer (some ⟨Ba, 0, none⟩)]) rfl (by kernel_rfl) (by kernel_rfl) (by kernel_rfl) (fun _ _ _ h => h) (Or.inl ⟨by rfl, fun w hS => ?_⟩) hHeld ?_
 · go_simp
 simp only [Act.put]
 refine wpAnyH_take (i := 1) (oi := _) (v := .pointer (some ⟨g + 1, 2, none⟩)) rfl (by kernel_rfl) (by kernel_rfl) (by kernel_rfl) (fun _ _ _ h => h) (Or.inl ⟨by rfl, fun w hS => ?_⟩) hHeld ?_
 · go_simp
 simp only [Act.put]
 refine wpAnyH_ready (rs := [2]) (by kernel_rfl) (by simp) ?_
 refine AllReadyH.cons rfl (fun K hK => ?_) AllReadyH.nil
 go_simp
 refine (num_no (HFd2.out) hq).mono ?_
 rintro e3 w3 ⟨rfl, hbl⟩
 have HCH := lh ((HWd2.out).2.2.trans (Chg.of_below (P := fun _ => False) hbl) (fun _ _ e => e.elim))
 unfold boom
 go_wp2
 refine ⟨rfl, ?_⟩
 rw [HNO.out]
 exact ⟨rfl, HCH.out⟩
set_option maxRecDepth 100000 in
set_option maxHeartbeats 2000000 in
theorem Xrw {w0 w : World} {Bc Ba B : Nat} {u : Value} {T : List (List UInt8)} {p n : Int} {s : List UInt8} {r : Value} {args : List Ex} {d ch : Int} (hb : Below B w0 w) (hB : B ≤ w.heap.size) (hp : Xap w Bc Ba B u T) (hd0 : 0 ≤ d) (hd : d ≤ 24) (hc0 : 0 ≤ ch) (hr : Xbd w0 B args r) (hs : s.length ≤ 40000) (hq : n = 0 ∨ n = 1) :
  Calls Tryz.prog 70 #[penV Bc Ba, .agg #[.int .i64 2, .int .i64 p, .int .i64 n, .string (Xaa s), r], .int .i64 d, .int .i64 ch] w (Xal w Bc Ba B u (adv T (penE (.mk 2 p n s args) d ch))) := by
 have hmf : ∀ (fn : Fn) (first cap : Array Value) (w : World), (Instr.makeFunc fn first cap).run Tryz.prog w = .ok (.func fn first cap) w := fun _ _ _ _ => rfl
 obtain ⟨A, c, hrv, _, _, _⟩ := id hr
 subst hrv
 obtain ⟨X, hX⟩ : ∃ X : World, X = (((w.alloc (.cells #[penV Bc Ba] 49)).alloc (.cells #[.int .i64 2, .int .i64 p, .int .i64 n, .string (Xaa s), .slice A args.length c] 35)).alloc (.cells #[.int .i64 d] 3)).alloc (.cells #[.int .i64 ch] 3) := ⟨_, rfl⟩
 obtain ⟨g, hg⟩ : ∃ g, g = w.heap.size := ⟨_, rfl⟩
 obtain ⟨hf, hsz⟩ := Xcu hX hg
 have hw : Went w Bc Ba B u X u T := by rw [hX]; exact ((((Went.refl hp).alloc _).alloc _).alloc _).alloc _
 have e0 := hf.ex.c0
 have hg1 : Bc < g := by rw [hg]; exact Xab hp.cnt
 have hg2 : Ba < g := by rw [hg]; exact Xab hp.buf
 have hBg : B ≤ g := by rw [hg]; exact hB
 have hwg : w.heap.size ≤ g := by rw [hg]; exact Nat.le_refl _
 have hd50 : d ≤ 50 := by omega
 have HEQ := lh (congrArg (adv T) ((penE_2 p n s args d ch hd).trans (Xaw hq _)))
 have HX := lh hX
 have HG := lh hg
 have HF := lh hf
 have HW := lh hw
 have HR := lh hr
 clear hX hg hf hw hsz hr
 unfold penV at HX ⊢
 go_enter Tryz.func70, Tryz.ntmps70
 go_wp2_with fail
 rw [← HX.out, ← HG.out]
 refine (Xaj _).mono ?_
 rintro e1 w1 ⟨rfl, rfl⟩
 obtain ⟨tx, htx⟩ : ∃ t : List UInt8, t = if n = 1 then [116, 114, 117, 101] else [102, 97, 108, 115, 101] := ⟨_, rfl⟩
 have htl : tx.length ≤ 40000 := by rw [htx]; split <;> decide
 rw [← htx] at HEQ
 have HTX := lh htx
 have HTL := lh htl
 clear htx htl
 have pc1 := (HF.out).pc
 go_wp2_with fail
 refine wp_region_held_drew (S := fun w' => w'.cell? ⟨g, 0, none⟩ = some (.func (.func 27) #[] #[.pointer (some ⟨Bc, 0, none⟩), .pointer (some ⟨Ba, 0, none⟩)])) (by kernel_rfl) pc1 (fun hHeld => ?_)
 have HWd2 := lh ((HW.out).drew)
 have HFd2 := lh ((HF.out).drew)
 refine wpAnyH_take (i := 0) (oi := _) (v := .func (.func 27) #[] #[.pointer (some ⟨Bc, 0, none⟩), .pointer (some ⟨Ba, 0, none⟩)]) rfl (by kernel_rfl) (by kernel_rfl) (by kernel_rfl) (fun _ _ _ h => h) (Or.inl ⟨by rfl, fun w hS => ?_⟩) hHeld ?_
 · go_simp
 simp only [Act.put]
 refine wpAnyH_take (i := 1) (oi := _) (v := .pointer (some ⟨g + 1, 2, none⟩)) rfl (by kernel_rfl) (by kernel_rfl) (by kernel_rfl) (fun _ _ _ h => h) (Or.inl ⟨by rfl, fun w hS => ?_⟩) hHeld ?_
 · go_simp
 simp only [Act.put]
 refine wpAnyH_ready (rs := [2]) (by kernel_rfl) (by simp) ?_
 refine AllReadyH.cons rfl (fun K hK => ?_) AllReadyH.nil
 go_simp
 refine (bool_yes (HFd2.out) hq tx HTX.out).mono ?_
 rintro e3 w3 ⟨rfl, hch, hfr⟩
 have HW3 := lh ((HWd2.out).loc (w2 := w3) (hch) (Nat.le_succ_of_le hwg) ((HFd2.out).nm (HWd2.out).1 hg1 hg2 (.inr (.inl rfl))))
 have HF3 : Hid (ExFr w3 g Bc Ba 2 p 0 s _ d ch) := lh (hfr)
 clear hch hfr
 have hk4 := (HF3.out).pc
 go_wp2_with fail
 refine hK.out _ _ hk4 (fun hHeld => ?_)
 clear hK K
 refine wpAnyH_ready (rs := [3]) (by kernel_rfl) (by simp) ?_
 refine AllReadyH.cons rfl (fun K hK => ?_) AllReadyH.nil
 go_simp
 refine hK.out _ _ ((HF3.out).below ((Below.refl _ _).alloc (Nat.le_refl _) _)).pc (fun hHeld => ?_)
 clear hK K
 refine wpAnyH_ready (rs := [4]) (by kernel_rfl) (by simp) ?_
 refine AllReadyH.cons rfl (fun K hK => ?_) AllReadyH.nil
 go_simp
 refine (Xaq (Went.refl (HW3.out).1) (Nat.le_trans hB (HW3.out).2.2.size) [tx] (by intro t ht; simp at ht; rw [ht]; exact HTL.out) (by simp)).mono ?_
 rintro e5 w5 hpost
 cases hR : adv T (some [tx]) with
 | none =>
   rw [hR] at hpost
   obtain ⟨rfl, hch⟩ := hpost
   have HNO := lh ((HEQ.out).trans (Xad hR _))
   have HCH := lh ((HW3.out).fell hch)
   clear hR hch
   unfold boom
   go_wp2
   refine ⟨rfl, ?_⟩
   rw [HNO.out]
   exact ⟨rfl, HCH.out⟩
 | some T5 =>
   rw [hR] at hpost
   obtain ⟨rfl, u5, hwent⟩ := hpost
   have HW5 := lh ((HW3.out).trans hwent)
   have HF5 := lh ((HF3.out).went (HW3.out).1 hg1 hg2 hwent)
   have HEQ5 := lh ((HEQ.out).trans (Xae hR _))
   clear hwent hR
   have hk6 := (HF5.out).pc
   go_wp2_with fail
   refine hK.out _ _ hk6 (fun hHeld => ?_)
   clear hK K
   refine wpAnyH_done (by kernel_rfl) ?_ _
   have c2 := (HF5.out).ex.c2
   have c3 := (HF5.out).ex.c3
   have c4 := (HF5.out).ex.c4
   have hz0 : (Xaa []).toList = [] := Xaf []
   obtain ⟨m, hm⟩ : ∃ m, m = (args).length := ⟨_, rfl⟩
   rw [← hm] at c4
   by_cases hs0 : s = []
   case neg =>
    have HNO := lh ((HEQ5.out).trans (show adv T5 (need _ (some [])) = none from by rw [Xag (fun h => hs0 h.1)]; rfl))
    have hs1 : ¬ (Xaa s).toList = [] := by rw [Xaf]; exact hs0
    clear hm
    clear hs0
    go_wp2_with fail
    refine (Xah _).mono ?_
    rintro e9 w9 ⟨rfl, rfl⟩
    unfold boom
    go_wp2
    refine ⟨rfl, ?_⟩
    rw [HNO.out]
    exact ⟨rfl, (HW5.out).2.2⟩
   by_cases hl0 : (args).length = 0
   case neg =>
    have HNO := lh ((HEQ5.out).trans (show adv T5 (need _ (some [])) = none from by rw [Xag (fun h => hl0 h.2)]; rfl))
    subst hs0
    have hl1 : ((m : Int) == 0) = false := by rw [beq_eq_false_iff_ne]; omega
    clear hm
    clear hl0
    go_wp2_with fail
    refine (Xah _).mono ?_
    rintro e9 w9 ⟨rfl, rfl⟩
    unfold boom
    go_wp2
    refine ⟨rfl, ?_⟩
    rw [HNO.out]
    exact ⟨rfl, (HW5.out).2.2⟩
   have HFIN := lh ((HEQ5.out).trans (show adv T5 (need _ (some [])) = some T5 from by rw [Xai ⟨hs0, hl0⟩]; exact Xbe (HW5.out).1.fit))
   subst hs0
   obtain rfl : m = 0 := by omega
   clear hm hl0
   go_wp2_with fail
   refine (Xaj _).mono ?_
   rintro e9 w9 ⟨rfl, rfl⟩
   go_wp2
   go_end0
   rw [HFIN.out]
   exact ⟨rfl, _, HW5.out⟩
set_option maxRecDepth 100000 in
set_option maxHeartbeats 2000000 in
theorem Xum {w0 w : World} {Bc Ba B : Nat} {u : Value} {T : List (List UInt8)} {p n : Int} {s : List UInt8} {r : Value} {args : List Ex} {d ch : Int} (hb : Below B w0 w) (hB : B ≤ w.heap.size) (hp : Xap w Bc Ba B u T) (hd0 : 0 ≤ d) (hd : d ≤ 24) (hc0 : 0 ≤ ch) (hr : Xbd w0 B args r) (hs : s.length ≤ 40000) (hq : ¬ (n = 0 ∨ n = 1)) :
  Calls Tryz.prog 70 #[penV Bc Ba, .agg #[.int .i64 2, .int .i64 p, .int .i64 n, .string (Xaa s), r], .int .i64 d, .int .i64 ch] w (Xal w Bc Ba B u (adv T (penE (.mk 2 p n s args) d ch))) := by
 have hmf : ∀ (fn : Fn) (first cap : Array Value) (w : World), (Instr.makeFunc fn first cap).run Tryz.prog w = .ok (.func fn first cap) w := fun _ _ _ _ => rfl
 obtain ⟨A, c, hrv, _, _, _⟩ := id hr
 subst hrv
 obtain ⟨X, hX⟩ : ∃ X : World, X = (((w.alloc (.cells #[penV Bc Ba] 49)).alloc (.cells #[.int .i64 2, .int .i64 p, .int .i64 n, .string (Xaa s), .slice A args.length c] 35)).alloc (.cells #[.int .i64 d] 3)).alloc (.cells #[.int .i64 ch] 3) := ⟨_, rfl⟩
 obtain ⟨g, hg⟩ : ∃ g, g = w.heap.size := ⟨_, rfl⟩
 obtain ⟨hf, hsz⟩ := Xcu hX hg
 have hw : Went w Bc Ba B u X u T := by rw [hX]; exact ((((Went.refl hp).alloc _).alloc _).alloc _).alloc _
 have e0 := hf.ex.c0
 have hg1 : Bc < g := by rw [hg]; exact Xab hp.cnt
 have hg2 : Ba < g := by rw [hg]; exact Xab hp.buf
 have hBg : B ≤ g := by rw [hg]; exact hB
 have hwg : w.heap.size ≤ g := by rw [hg]; exact Nat.le_refl _
 have hd50 : d ≤ 50 := by omega
 have HEQ := lh (congrArg (adv T) ((penE_2 p n s args d ch hd).trans (Xaz hq _)))
 have HX := lh hX
 have HG := lh hg
 have HF := lh hf
 have HW := lh hw
 have HR := lh hr
 clear hX hg hf hw hsz hr
 unfold penV at HX ⊢
 go_enter Tryz.func70, Tryz.ntmps70
 go_wp2_with fail
 rw [← HX.out, ← HG.out]
 refine (Xaj _).mono ?_
 rintro e1 w1 ⟨rfl, rfl⟩
 have HNO := HEQ
 have pc1 := (HF.out).pc
 go_wp2_with fail
 refine wp_region_held_drew (S := fun w' => w'.cell? ⟨g, 0, none⟩ = some (.func (.func 27) #[] #[.pointer (some ⟨Bc, 0, none⟩), .pointer (some ⟨Ba, 0, none⟩)])) (by kernel_rfl) pc1 (fun hHeld => ?_)
 have HWd2 := lh ((HW.out).drew)
 have HFd2 := lh ((HF.out).drew)
 refine wpAnyH_take (i := 0) (oi := _) (v := .func (.func 27) #[] #[.pointer (some ⟨Bc, 0, none⟩), .pointer (some ⟨Ba, 0, none⟩)]) rfl (by kernel_rfl) (by kernel_rfl) (by kernel_rfl) (fun _ _ _ h => h) (Or.inl ⟨by rfl, fun w hS => ?_⟩) hHeld ?_
 · go_simp
 simp only [Act.put]
 refine wpAnyH_take (i := 1) (oi := _) (v := .pointer (some ⟨g + 1, 2, none⟩)) rfl (by kernel_rfl) (by kernel_rfl) (by kernel_rfl) (fun _ _ _ h => h) (Or.inl ⟨by rfl, fun w hS => ?_⟩) hHeld ?_
 · go_simp
 simp only [Act.put]
 refine wpAnyH_ready (rs := [2]) (by kernel_rfl) (by simp) ?_
 refine AllReadyH.cons rfl (fun K hK => ?_) AllReadyH.nil
 go_simp
 refine (bool_no (HFd2.out) hq).mono ?_
 rintro e3 w3 ⟨rfl, hbl⟩
 have HCH := lh ((HWd2.out).2.2.trans (Chg.of_below (P := fun _ => False) hbl) (fun _ _ e => e.elim))
 unfold boom
 go_wp2
 refine ⟨rfl, ?_⟩
 rw [HNO.out]
 exact ⟨rfl, HCH.out⟩
end Go.Proofs.YtodociiaobjfgaaGreatDoor
