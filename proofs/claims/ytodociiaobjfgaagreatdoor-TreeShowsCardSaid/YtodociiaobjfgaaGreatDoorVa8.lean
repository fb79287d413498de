/- Vq -/
import Derived.Test.YtodociiaobjfgaaGreatDoorVb0
set_option linter.unusedVariables false
set_option linter.unusedSimpArgs false
namespace Go.Proofs.YtodociiaobjfgaaGreatDoor
open Go.RowKit
set_option maxRecDepth 100000 in
set_option maxHeartbeats 2000000 in
theorem Xow {w0 w : World} {Bc Ba B : Nat} {u : Value} {T : List (List UInt8)} {p n : Int} {s : List UInt8} {r : Value} {args : List Ex} {d ch : Int} (hb : Below B w0 w) (hB : B ≤ w.heap.size) (hp : Xap w Bc Ba B u T) (hd0 : 0 ≤ d) (hd : d ≤ 24) (hc0 : 0 ≤ ch) (hr : Xbd w0 B args r) (hs : s.length ≤ 40000) (hq : Xam s = true) :
  Calls Tryz.prog 70 #[penV Bc Ba, .agg #[.int .i64 11, .int .i64 p, .int .i64 n, .string (Xaa s), r], .int .i64 d, .int .i64 ch] w (Xal w Bc Ba B u (adv T (penE (.mk 11 p n s args) d ch))) := by
 have hmf : ∀ (fn : Fn) (first cap : Array Value) (w : World), (Instr.makeFunc fn first cap).run Tryz.prog w = .ok (.func fn first cap) w := fun _ _ _ _ => rfl
 obtain ⟨A, c, hrv, _, _, _⟩ := id hr
 subst hrv
 obtain ⟨X, hX⟩ : ∃ X : World, X = (((w.alloc (.cells #[penV Bc Ba] 49)).alloc (.cells #[.int .i64 11, .int .i64 p, .int .i64 n, .string (Xaa s), .slice A args.length c] 35)).alloc (.cells #[.int .i64 d] 3)).alloc (.cells #[.int .i64 ch] 3) := ⟨_, rfl⟩
 obtain ⟨g, hg⟩ : ∃ g, g = w.heap.size := ⟨_, rfl⟩
 obtain ⟨hf, hsz⟩ := Xcu hX hg
 have hw : Went w Bc Ba B u X u T := by rw [hX]; exact ((((Went.refl hp).alloc _).alloc _).alloc _).alloc _
 have e0 := hf.ex.c0
 have hg1 : Bc < g := by rw [hg]; exact Xab hp.cnt
 have hg2 : Ba < g := by rw [hg]; exact Xab hp.buf
 have hBg : B ≤ g := by rw [hg]; exact hB
 have hwg : w.heap.size ≤ g := by rw [hg]; exact Nat.le_refl _
 have hd50 : d ≤ 50 := by omega
 have HEQ := lh (congrArg (adv T) ((Xvk p n s args d ch hd).trans (Xaw hq _)))
 have HX := lh hX
 have HG := lh hg
 have HF := lh hf
 have HW := lh hw
 have HR := lh hr
 clear hX hg hf hw hsz hr
 unfold penV at HX ⊢
 go_enter Tryz.func70, Tryz.ntmps70
 go_wp2_with fail
 rw [← HX.out, ← HG.out]
 refine (Xaj _).mono ?_
 rintro e1 w1 ⟨rfl, rfl⟩
 have pc1 := (HF.out).pc
 go_wp2_with fail
 refine wp_region_held_drew (S := fun w' => w'.cell? ⟨g, 0, none⟩ = some (.func (.func 27) #[] #[.pointer (some ⟨Bc, 0, none⟩), .pointer (some ⟨Ba, 0, none⟩)])) (by kernel_rfl) pc1 (fun hHeld => ?_)
 have HWd2 := lh ((HW.out).drew)
 have HFd2 := lh ((HF.out).drew)
 refine wpAnyH_take (i := 0) (oi := _) (v := .func (.func 27) #[] #[.pointer (some ⟨Bc, 0, none⟩), .pointer (some ⟨Ba, 0, none⟩)]) rfl (by kernel_rfl) (by kernel_rfl) (by kernel_rfl) (fun _ _ _ h => h) (Or.inl ⟨by rfl, fun w hS => ?_⟩) hHeld ?_
 · go_simp
 simp only [Act.put]
 refine wpAnyH_take (i := 1) (oi := _) (v := .func (.func 83) #[] #[.pointer (some ⟨g + 1, 0, none⟩)]) rfl (by kernel_rfl) (by kernel_rfl) (by kernel_rfl) (fun _ _ _ h => h) (Or.inl ⟨by rfl, fun w hS => ?_⟩) hHeld ?_
 · go_simp
 simp only [Act.put]
 refine wpAnyH_ready (rs := [2]) (by kernel_rfl) (by simp) ?_
 refine AllReadyH.cons rfl (fun K hK => ?_) AllReadyH.nil
 go_simp
 refine (Xiy (HFd2.out) hs hq).mono ?_
 rintro e3 w3 ⟨rfl, hch, hfr⟩
 have HW3 := lh ((HWd2.out).loc (w2 := w3) (hch) (Nat.le_succ_of_le hwg) ((HFd2.out).nm (HWd2.out).1 hg1 hg2 (.inr (.inl rfl))))
 have HF3 : Hid (ExFr w3 g Bc Ba 11 p n [] _ d ch) := lh (hfr)
 clear hch hfr
 have hk4 := (HF3.out).pc
 go_wp2_with fail
 refine hK.out _ _ hk4 (fun hHeld => ?_)
 clear hK K
 refine wpAnyH_ready (rs := [3]) (by kernel_rfl) (by simp) ?_
 refine AllReadyH.cons rfl (fun K hK => ?_) AllReadyH.nil
 go_simp
 refine hK.out _ _ ((HF3.out).below ((Below.refl _ _).alloc (Nat.le_refl _) _)).pc (fun hHeld => ?_)
 clear hK K
 refine wpAnyH_ready (rs := [4]) (by kernel_rfl) (by simp) ?_
 refine AllReadyH.cons rfl (fun K hK => ?_) AllReadyH.nil
 go_simp
 refine (Xaq (Went.refl (HW3.out).1) (Nat.le_trans hB (HW3.out).2.2.size) [[110, 101, 119], s] (by intro t ht; simp at ht; have := hs; first | (rcases ht with rfl | rfl | rfl <;> first | decide | exact hs | simp) | (rw [ht]; first | decide | exact hs) | (rw [ht]; simp)) (by simp)).mono ?_
 rintro e5 w5 hpost
 cases hR : adv T (some [[110, 101, 119], s]) with
 | none =>
   rw [hR] at hpost
   obtain ⟨rfl, hch⟩ := hpost
   have HNO := lh ((HEQ.out).trans (Xad hR _))
   have HCH := lh ((HW3.out).fell hch)
   clear hR hch
   unfold boom
   go_wp2
   refine ⟨rfl, ?_⟩
   rw [HNO.out]
   exact ⟨rfl, HCH.out⟩
 | some T5 =>
   rw [hR] at hpost
   obtain ⟨rfl, u5, hwent⟩ := hpost
   have HW5 := lh ((HW3.out).trans hwent)
   have HF5 := lh ((HF3.out).went (HW3.out).1 hg1 hg2 hwent)
   have HEQ5 := lh ((HEQ.out).trans (Xae hR _))
   clear hwent hR
   have hk6 := (HF5.out).pc
   go_wp2_with fail
   refine hK.out _ _ hk6 (fun hHeld => ?_)
   clear hK K
   refine wpAnyH_done (by kernel_rfl) ?_ _
   have c2 := (HF5.out).ex.c2
   have c3 := (HF5.out).ex.c3
   have c4 := (HF5.out).ex.c4
   have hz0 : (Xaa []).toList = [] := Xaf []
   obtain ⟨m, hm⟩ : ∃ m, m = (args).length := ⟨_, rfl⟩
   rw [← hm] at c4
   by_cases hn : n = 0
   case neg =>
    have HNO := lh ((HEQ5.out).trans (show adv T5 (need _ (some [])) = none from by rw [Xag (fun h => hn h.1)]; rfl))
    clear hm
    go_wp2_with fail
    refine (Xah _).mono ?_
    rintro e9 w9 ⟨rfl, rfl⟩
    unfold boom
    go_wp2
    refine ⟨rfl, ?_⟩
    rw [HNO.out]
    exact ⟨rfl, (HW5.out).2.2⟩
   by_cases hl0 : (args).length = 0
   case neg =>
    have HNO := lh ((HEQ5.out).trans (show adv T5 (need _ (some [])) = none from by rw [Xag (fun h => hl0 h.2)]; rfl))
    subst hn
    have hl1 : ((m : Int) == 0) = false := by rw [beq_eq_false_iff_ne]; omega
    clear hm
    clear hl0
    go_wp2_with fail
    refine (Xah _).mono ?_
    rintro e9 w9 ⟨rfl, rfl⟩
    unfold boom
    go_wp2
    refine ⟨rfl, ?_⟩
    rw [HNO.out]
    exact ⟨rfl, (HW5.out).2.2⟩
   have HFIN := lh ((HEQ5.out).trans (show adv T5 (need _ (some [])) = some T5 from by rw [Xai ⟨hn, hl0⟩]; exact Xbe (HW5.out).1.fit))
   subst hn
   obtain rfl : m = 0 := by omega
   clear hm hl0
   go_wp2_with fail
   refine (Xaj _).mono ?_
   rintro e9 w9 ⟨rfl, rfl⟩
   go_wp2
   go_end0
   rw [HFIN.out]
   exact ⟨rfl, _, HW5.out⟩
set_option maxRecDepth 100000 in
set_option maxHeartbeats 2000000 in
theorem Xrt {w0 w : World} {Bc Ba B : Nat} {u : Value} {T : List (List UInt8)} {p n : Int} {s : List UInt8} {r : Value} {args : List Ex} {d ch : Int} (hb : Below B w0 w) (hB : B ≤ w.heap.size) (hp : Xap w Bc Ba B u T) (hd0 : 0 ≤ d) (hd : d ≤ 24) (hc0 : 0 ≤ ch) (hr : Xbd w0 B args r) (hs : s.length ≤ 40000) (hq : ¬ (Xam s = true)) :
  Calls Tryz.prog 70 #[penV Bc Ba, .agg #[.int .i64 11, .int .i64 p, .int .i64 n, .string (Xaa s), r], .int .i64 d, .int .i64 ch] w (Xal w Bc Ba B u (adv T (penE (.mk 11 p n s args) d ch))) := by
 have hmf : ∀ (fn : Fn) (first cap : Array Value) (w : World), (Instr.makeFunc fn first cap).run Tryz.prog w = .ok (.func fn first cap) w := fun _ _ _ _ => rfl
 obtain ⟨A, c, hrv, _, _, _⟩ := id hr
 subst hrv
 obtain ⟨X, hX⟩ : ∃ X : World, X = (((w.alloc (.cells #[penV Bc Ba] 49)).alloc (.cells #[.int .i64 11, .int .i64 p, .int .i64 n, .string (Xaa s), .slice A args.length c] 35)).alloc (.cells #[.int .i64 d] 3)).alloc (.cells #[.int .i64 ch] 3) := ⟨_, rfl⟩
 obtain ⟨g, hg⟩ : ∃ g, g = w.heap.size := ⟨_, rfl⟩
 obtain ⟨hf, hsz⟩ := Xcu hX hg
 have hw : Went w Bc Ba B u X u T := by rw [hX]; exact ((((Went.refl hp).alloc _).alloc _).alloc _).alloc _
 have e0 := hf.ex.c0
 have hg1 : Bc < g := by rw [hg]; exact Xab hp.cnt
 have hg2 : Ba < g := by rw [hg]; exact Xab hp.buf
 have hBg : B ≤ g := by rw [hg]; exact hB
 have hwg : w.heap.size ≤ g := by rw [hg]; exact Nat.le_refl _
 have hd50 : d ≤ 50 := by omega
 have HEQ := lh (congrArg (adv T) ((Xvk p n s args d ch hd).trans (Xaz hq _)))
 have HX := lh hX
 have HG := lh hg
 have HF := lh hf
 have HW := lh hw
 have HR := lh hr
 clear hX hg hf hw hsz hr
 unfold penV at HX ⊢
 go_enter Tryz.func70, Tryz.ntmps70
 go_wp2_with fail
 rw [← HX.out, ← HG.out]
 refine (Xaj _).mono ?_
 rintro e1 w1 ⟨rfl, rfl⟩
 have HNO := HEQ
 have pc1 := (HF.out).pc
 go_wp2_with fail
 refine wp_region_held_drew (S := fun w' => w'.cell? ⟨g, 0, none⟩ = some (.func (.func 27) #[] #[.pointer (some ⟨Bc, 0, none⟩), .pointer (some ⟨Ba, 0, none⟩)])) (by kernel_rfl) pc1 (fun hHeld => ?_)
 have HWd2 := lh ((HW.out).drew)
 have HFd2 := lh ((HF.out).drew)
 refine wpAnyH_take (i := 0) (oi := _) (v := .func (.func 27) #[] #[.pointer (some ⟨Bc, 0, none⟩), .pointer (some ⟨Ba, 0, none⟩)]) rfl (by kernel_rfl) (by kernel_rfl) (by kernel_rfl) (fun _ _ _ h => h) (Or.inl ⟨by rfl, fun w hS => ?_⟩) hHeld ?_
 · go_simp
 simp only [Act.put]
 refine wpAnyH_take (i := 1) (oi := _) (v := .func (.func 83) #[] #[.pointer (some ⟨g + 1, 0, none⟩)]) rfl (by kernel_rfl) (by kernel_rfl) (by kernel_rfl) (fun _ _ _ h => h) (Or.inl ⟨by rfl, fun w hS => ?_⟩) hHeld ?_
 · go_simp
 simp only [Act.put]
 refine wpAnyH_ready (rs := [2]) (by kernel_rfl) (by simp) ?_
 refine AllReadyH.cons rfl (fun K hK => ?_) AllReadyH.nil
 go_simp
 refine (Xly (HFd2.out) hs (by simpa using hq)).mono ?_
 rintro e3 w3 ⟨rfl, hbl⟩
 have HCH := lh ((HWd2.out).2.2.trans (Chg.of_below (P := fun _ => False) hbl) (fun _ _ e => e.elim))
 unfold boom
 go_wp2
 refine ⟨rfl, ?_⟩
 rw [HNO.out]
 exact ⟨rfl, HCH.out⟩
set_option maxRecDepth 100000 in
set_option maxHeartbeats 2000000 in
theorem Xox {w0 w : World} {Bc Ba B : Nat} {u : Value} {T : List (List UInt8)} {p n : Int} {s : List UInt8} {r : Value} {args : List Ex} {d ch : Int} (hb : Below B w0 w) (hB : B ≤ w.heap.size) (hp : Xap w Bc Ba B u T) (hd0 : 0 ≤ d) (hd : d ≤ 24) (hc0 : 0 ≤ ch) (hr : Xbd w0 B args r) (hs : s.length ≤ 40000) (hq : Xam s = true) :
  Calls Tryz.prog 70 #[penV Bc Ba, .agg #[.int .i64 13, .int .i64 p, .int .i64 n, .string (Xaa s), r], .int .i64 d, .int .i64 ch] w (Xal w Bc Ba B u (adv T (penE (.mk 13 p n s args) d ch))) := by
 have hmf : ∀ (fn : Fn) (first cap : Array Value) (w : World), (Instr.makeFunc fn first cap).run Tryz.prog w = .ok (.func fn first cap) w := fun _ _ _ _ => rfl
 obtain ⟨A, c, hrv, _, _, _⟩ := id hr
 subst hrv
 obtain ⟨X, hX⟩ : ∃ X : World, X = (((w.alloc (.cells #[penV Bc Ba] 49)).alloc (.cells #[.int .i64 13, .int .i64 p, .int .i64 n, .string (Xaa s), .slice A args.length c] 35)).alloc (.cells #[.int .i64 d] 3)).alloc (.cells #[.int .i64 ch] 3) := ⟨_, rfl⟩
 obtain ⟨g, hg⟩ : ∃ g, g = w.heap.size := ⟨_, rfl⟩
 obtain ⟨hf, hsz⟩ := Xcu hX hg
 have hw : Went w Bc Ba B u X u T := by rw [hX]; exact ((((Went.refl hp).alloc _).alloc _).alloc _).alloc _
 have e0 := hf.ex.c0
 have hg1 : Bc < g := by rw [hg]; exact Xab hp.cnt
 have hg2 : Ba < g := by rw [hg]; exact Xab hp.buf
 have hBg : B ≤ g := by rw [hg]; exact hB
 have hwg : w.heap.size ≤ g := by rw [hg]; exact Nat.le_refl _
 have hd50 : d ≤ 50 := by omega
 have HEQ := lh (congrArg (adv T) ((Xvl p n s args d ch hd).trans (Xaw hq _)))
 have HX := lh hX
 have HG := lh hg
 have HF := lh hf
 have HW := lh hw
 have HR := lh hr
 clear hX hg hf hw hsz hr
 unfold penV at HX ⊢
 go_enter Tryz.func70, Tryz.ntmps70
 go_wp2_with fail
 rw [← HX.out, ← HG.out]
 refine (Xaj _).mono ?_
 rintro e1 w1 ⟨rfl, rfl⟩
 have pc1 := (HF.out).pc
 go_wp2_with fail
 refine wp_region_held_drew (S := fun w' => w'.cell? ⟨g, 0, none⟩ = some (.func (.func 27) #[] #[.pointer (some ⟨Bc, 0, none⟩), .pointer (some ⟨Ba, 0, none⟩)])) (by kernel_rfl) pc1 (fun hHeld => ?_)
 have HWd2 := lh ((HW.out).drew)
 have HFd2 := lh ((HF.out).drew)
 refine wpAnyH_take (i := 0) (oi := _) (v := .func (.func 27) #[] #[.pointer (some ⟨Bc, 0, none⟩), .pointer (some ⟨Ba, 0, none⟩)]) rfl (by kernel_rfl) (by kernel_rfl) (by kernel_rfl) (fun _ _ _ h => h) (Or.inl ⟨by rfl, fun w hS => ?_⟩) hHeld ?_
 · go_simp
 simp only [Act.put]
 refine wpAnyH_take (i := 1) (oi := _) (v := .func (.func 83) #[] #[.pointer (some ⟨g + 1, 0, none⟩)]) rfl (by kernel_rfl) (by kernel_rfl) (by kernel_rfl) (fun _ _ _ h => h) (Or.inl ⟨by rfl, fun w hS => ?_⟩) hHeld ?_
 · go_simp
 simp only [Act.put]
 refine wpAnyH_ready (rs := [2]) (by kernel_rfl) (by simp) ?_
 refine AllReadyH.cons rfl (fun K hK => ?_) AllReadyH.nil
 go_simp
 refine (Xiy (HFd2.out) hs hq).mono ?_
 rintro e3 w3 ⟨rfl, hch, hfr⟩
 have HW3 := lh ((HWd2.out).loc (w2 := w3) (hch) (Nat.le_succ_of_le hwg) ((HFd2.out).nm (HWd2.out).1 hg1 hg2 (.inr (.inl rfl))))
 have HF3 : Hid (ExFr w3 g Bc Ba 13 p n [] _ d ch) := lh (hfr)
 clear hch hfr
 have hk4 := (HF3.out).pc
 go_wp2_with fail
 refine hK.out _ _ hk4 (fun hHeld => ?_)
 clear hK K
 refine wpAnyH_ready (rs := [3]) (by kernel_rfl) (by simp) ?_
 refine AllReadyH.cons rfl (fun K hK => ?_) AllReadyH.nil
 go_simp
 refine hK.out _ _ ((HF3.out).below ((Below.refl _ _).alloc (Nat.le_refl _) _)).pc (fun hHeld => ?_)
 clear hK K
 refine wpAnyH_ready (rs := [4]) (by kernel_rfl) (by simp) ?_
 refine AllReadyH.cons rfl (fun K hK => ?_) AllReadyH.nil
 go_simp
 refine (Xaq (Went.refl (HW3.out).1) (Nat.le_trans hB (HW3.out).2.2.size) [[114, 101, 108, 101, 97, 115, 101], s] (by intro t ht; simp at ht; have := hs; first | (rcases ht with rfl | rfl | rfl <;> first | decide | exact hs | simp) | (rw [ht]; first | decide | exact hs) | (rw [ht]; simp)) (by simp)).mono ?_
 rintro e5 w5 hpost
 cases hR : adv T (some [[114, 101, 108, 101, 97, 115, 101], s]) with
 | none =>
   rw [hR] at hpost
   obtain ⟨rfl, hch⟩ := hpost
   have HNO := lh ((HEQ.out).trans (Xad hR _))
   have HCH := lh ((HW3.out).fell hch)
   clear hR hch
   unfold boom
   go_wp2
   refine ⟨rfl, ?_⟩
   rw [HNO.out]
   exact ⟨rfl, HCH.out⟩
 | some T5 =>
   rw [hR] at hpost
   obtain ⟨rfl, u5, hwent⟩ := hpost
   have HW5 := lh ((HW3.out).trans hwent)
   have HF5 := lh ((HF3.out).went (HW3.out).1 hg1 hg2 hwent)
   have HEQ5 := lh ((HEQ.out).trans (Xae hR _))
   clear hwent hR
   have hk6 := (HF5.out).pc
   go_wp2_with fail
   refine hK.out _ _ hk6 (fun hHeld => ?_)
   clear hK K
   refine wpAnyH_done (by kernel_rfl) ?_ _
   have c2 := (HF5.out).ex.c2
   have c3 := (HF5.out).ex.c3
   have c4 := (HF5.out).ex.c4
   have hz0 : (Xaa []).toList = [] := Xaf []
   obtain ⟨m, hm⟩ : ∃ m, m = (args).length := ⟨_, rfl⟩
   rw [← hm] at c4
   by_cases hn : n = 0
   case neg =>
    have HNO := lh ((HEQ5.out).trans (show adv T5 (need _ (some [])) = none from by rw [Xag (fun h => hn h.1)]; rfl))
    clear hm
    go_wp2_with fail
    refine (Xah _).mono ?_
    rintro e9 w9 ⟨rfl, rfl⟩
    unfold boom
    go_wp2
    refine ⟨rfl, ?_⟩
    rw [HNO.out]
    exact ⟨rfl, (HW5.out).2.2⟩
   by_cases hl0 : (args).length = 0
   case neg =>
    have HNO := lh ((HEQ5.out).trans (show adv T5 (need _ (some [])) = none from by rw [Xag (fun h => hl0 h.2)]; rfl))
    subst hn
    have hl1 : ((m : Int) == 0) = false := by rw [beq_eq_false_iff_ne]; omega
    clear hm
    clear hl0
    go_wp2_with fail
    refine (Xah _).mono ?_
    rintro e9 w9 ⟨rfl, rfl⟩
    unfold boom
    go_wp2
    refine ⟨rfl, ?_⟩
    rw [HNO.out]
    exact ⟨rfl, (HW5.out).2.2⟩
   have HFIN := lh ((HEQ5.out).trans (show adv T5 (need _ (some [])) = some T5 from by rw [Xai ⟨hn, hl0⟩]; exact Xbe (HW5.out).1.fit))
   subst hn
   obtain rfl : m = 0 := by omega
   clear hm hl0
   go_wp2_with fail
   refine (Xaj _).mono ?_
   rintro e9 w9 ⟨rfl, rfl⟩
   go_wp2
   go_end0
   rw [HFIN.out]
   exact ⟨rfl, _, HW5.out⟩
set_option maxRecDepth 100000 in
set_option maxHeartbeats 2000000 in
theorem Xru {w0 w : World} {Bc Ba B : Nat} {u : Value} {T : List (List UInt8)} {p n : Int} {s : List UInt8} {r : Value} {args : List Ex} {d ch : Int} (hb : Below B w0 w) (hB : B ≤ w.heap.size) (hp : Xap w Bc Ba B u T) (hd0 : 0 ≤ d) (hd : d ≤ 24) (hc0 : 0 ≤ ch) (hr : Xbd w0 B args r) (hs : s.length ≤ 40000) (hq : ¬ (Xam s = true)) :
  Calls Tryz.prog 70 #[penV Bc Ba, .agg #[.int .i64 13, .int .i64 p, .int .i64 n, .string (Xaa s), r], .int .i64 d, .int .i64 ch] w (Xal w Bc Ba B u (adv T (penE (.mk 13 p n s args) d ch))) := by
 have hmf : ∀ (fn : Fn) (first cap : Array Value) (w : World), (Instr.makeFunc fn first cap).run Tryz.prog w = .ok (.func fn first cap) w := fun _ _ _ _ => rfl
 obtain ⟨A, c, hrv, _, _, _⟩ := id hr
 subst hrv
 obtain ⟨X, hX⟩ : ∃ X : World, X = (((w.alloc (.cells #[penV Bc Ba] 49)).alloc (.cells #[.int .i64 13, .int .i64 p, .int .i64 n, .string (Xaa s), .slice A args.length c] 35)).alloc (.cells #[.int .i64 d] 3)).alloc (.cells #[.int .i64 ch] 3) := ⟨_, rfl⟩
 obtain ⟨g, hg⟩ : ∃ g, g = w.heap.size := ⟨_, rfl⟩
 obtain ⟨hf, hsz⟩ := Xcu hX hg
 have hw : Went w Bc Ba B u X u T := by rw [hX]; exact ((((Went.refl hp).alloc _).alloc _).alloc _).alloc _
 have e0 := hf.ex.c0
 have hg1 : Bc < g := by rw [hg]; exact Xab hp.cnt
 have hg2 : Ba < g := by rw [hg]; exact Xab hp.buf
 have hBg : B ≤ g := by rw [hg]; exact hB
 have hwg : w.heap.size ≤ g := by rw [hg]; exact Nat.le_refl _
 have hd50 : d ≤ 50 := by omega
 have HEQ := lh (congrArg (adv T) ((Xvl p n s args d ch hd).trans (Xaz hq _)))
 have HX := lh hX
 have HG := lh hg
 have HF := lh hf
 have HW := lh hw
 have HR := lh hr
 clear hX hg hf hw hsz hr
 unfold penV at HX ⊢
 go_enter Tryz.func70, Tryz.ntmps70
 go_wp2_with fail
 rw [← HX.out, ← HG.out]
 refine (Xaj _).mono ?_
 rintro e1 w1 ⟨rfl, rfl⟩
 have HNO := HEQ
 have pc1 := (HF.out).pc
 go_wp2_with fail
 refine wp_region_held_drew (S := fun w' => w'.cell? ⟨g, 0, none⟩ = some (.func (.func 27) #[] #[.pointer (some ⟨Bc, 0, none⟩), .pointer (some ⟨Ba, 0, none⟩)])) (by kernel_rfl) pc1 (fun hHeld => ?_)
 have HWd2 := lh ((HW.out).drew)
 have HFd2 := lh ((HF.out).drew)
 refine wpAnyH_take (i := 0) (oi := _) (v := .func (.func 27) #[] #[.pointer (some ⟨Bc, 0, none⟩), .pointer (some ⟨Ba, 0, none⟩)]) rfl (by kernel_rfl) (by kernel_rfl) (by kernel_rfl) (fun _ _ _ h => h) (Or.inl ⟨by rfl, fun w hS => ?_⟩) hHeld ?_
 · go_simp
 simp only [Act.put]
 refine wpAnyH_take (i := 1) (oi := _) (v := .func (.func 83) #[] #[.pointer (some ⟨g + 1, 0, none⟩)]) rfl (by kernel_rfl) (by kernel_rfl) (by kernel_rfl) (fun _ _ _ h => h) (Or.inl ⟨by rfl, fun w hS => ?_⟩) hHeld ?_
 · go_simp
 simp only [Act.put]
 refine wpAnyH_ready (rs := [2]) (by kernel_rfl) (by simp) ?_
 refine AllReadyH.cons rfl (fun K hK => ?_) AllReadyH.nil
 go_simp
 refine (Xly (HFd2.out) hs (by simpa using hq)).mono ?_
 rintro e3 w3 ⟨rfl, hbl⟩
 have HCH := lh ((HWd2.out).2.2.trans (Chg.of_below (P := fun _ => False) hbl) (fun _ _ e => e.elim))
 unfold boom
 go_wp2
 refine ⟨rfl, ?_⟩
 rw [HNO.out]
 exact ⟨rfl, HCH.out⟩
end Go.Proofs.YtodociiaobjfgaaGreatDoor
