/- Wk -/
import Derived.Test.YtodociiaobjfgaaGreatDoorVb9
set_option linter.unusedVariables false
set_option linter.unusedSimpArgs false
namespace Go.Proofs.YtodociiaobjfgaaGreatDoor
open Go.RowKit
set_option maxRecDepth 100000 in
set_option maxHeartbeats 4000000 in
theorem Xti {w0 w : World} {Bc Ba B : Nat} {u : Value} {T : List (List UInt8)} {p : Int} {nm ty : List UInt8} {V bv ev : Value} {ex : List Ex} {bd el : List Sm} {d : Int} (hb : Below B w0 w) (hB : B ≤ w.heap.size) (hp : Xap w Bc Ba B u T) (hd0 : 0 ≤ d) (hd : d ≤ 24) (hr : Xbd w0 B ex V) (hnl : nm.length ≤ 40000) (htl : ty.length ≤ 40000)
  (hbd : Xao w0 B bd bv) (hel : Xao w0 B el ev) (hbs : ∃ A c, bv = .slice A bd.length c) (hes : ∃ A c, ev = .slice A el.length c) (hq : Xam nm = true) (hq2 : Xam ty = true) :
  Calls Tryz.prog 58 #[penV Bc Ba, .agg #[.int .i64 8, .int .i64 p, .string (Xaa nm), .string (Xaa ty), V, bv, ev], .int .i64 d] w (Xal w Bc Ba B u (adv T (penS (.mk 8 p nm ty ex bd el) d))) := by
 have hmf : ∀ (fn : Fn) (first cap : Array Value) (w : World), (Instr.makeFunc fn first cap).run Tryz.prog w = .ok (.func fn first cap) w := fun _ _ _ _ => rfl
 obtain ⟨A, c, hrv, _, _, _⟩ := id hr
 subst hrv
 obtain ⟨Ab, cb, hbv⟩ := hbs
 subst hbv
 obtain ⟨Ae, ce, hev⟩ := hes
 subst hev
 obtain ⟨X, hX⟩ : ∃ X : World, X = ((w.alloc (.cells #[penV Bc Ba] 49)).alloc (.cells #[.int .i64 8, .int .i64 p, .string (Xaa nm), .string (Xaa ty), .slice A ex.length c, .slice Ab bd.length cb, .slice Ae el.length ce] 38)).alloc (.cells #[.int .i64 d] 3) := ⟨_, rfl⟩
 obtain ⟨g, hg⟩ : ∃ g, g = w.heap.size := ⟨_, rfl⟩
 obtain ⟨hf, hsz⟩ := Xct hX hg
 have hw : Went w Bc Ba B u X u T := by rw [hX]; exact (((Went.refl hp).alloc _).alloc _).alloc _
 have e0 := hf.sm.c0
 have hg1 : Bc < g := by rw [hg]; exact Xab hp.cnt
 have hg2 : Ba < g := by rw [hg]; exact Xab hp.buf
 have hBg : B ≤ g := by rw [hg]; exact hB
 have hwg : w.heap.size ≤ g := by rw [hg]; exact Nat.le_refl _
 have hd50 : d ≤ 50 := by omega
 have HEQ := lh (congrArg (adv T) ((Xvu p nm ty ex bd el d).trans ((Xaw hq _).trans (Xaw hq2 _))))
 have HXS : Hid (g + 1 + 1 + 1 = X.heap.size) := lh (by rw [hsz])
 have HX := lh hX
 have HG := lh hg
 have HF := lh hf
 have HW := lh hw
 have HR := lh hr
 clear hX hg hf hw hsz hr
 unfold penV at HX ⊢
 go_enter Tryz.func58, Tryz.ntmps58
 have pc1 := (HF.out).pc
 have dc1 := (HF.out).dc
 go_wp2_with fail
 rw [← HX.out, ← HG.out]
 refine wp_region_held_drew (S := fun w' => w'.cell? ⟨g, 0, none⟩ = some (.func (.func 27) #[] #[.pointer (some ⟨Bc, 0, none⟩), .pointer (some ⟨Ba, 0, none⟩)])) (by kernel_rfl) pc1 (fun hHeld => ?_)
 have HWd2 := lh ((HW.out).drew)
 have HFd2 := lh ((HF.out).drew)
 refine wpAnyH_take (i := 0) (oi := _) (v := .func (.func 27) #[] #[.pointer (some ⟨Bc, 0, none⟩), .pointer (some ⟨Ba, 0, none⟩)]) rfl (by kernel_rfl) (by kernel_rfl) (by kernel_rfl) (fun _ _ _ h => h) (Or.inl ⟨by rfl, fun w hS => ?_⟩) hHeld ?_
 · go_simp
 simp only [Act.put]
 refine wpAnyH_take (i := 1) (oi := _) (v := .func (.func 68) #[] #[.pointer (some ⟨g + 1, 0, none⟩)]) rfl (by kernel_rfl) (by kernel_rfl) (by kernel_rfl) (fun _ _ _ h => h) (Or.inl ⟨by rfl, fun w hS => ?_⟩) hHeld ?_
 · go_simp
 simp only [Act.put]
 refine wpAnyH_take (i := 3) (oi := _) (v := .pointer (some ⟨g + 1, 3, none⟩)) rfl (by kernel_rfl) (by kernel_rfl) (by kernel_rfl) (fun _ _ _ h => h) (Or.inl ⟨by rfl, fun w hS => ?_⟩) hHeld ?_
 · go_simp
 simp only [Act.put]
 refine wpAnyH_ready (rs := [2]) (by kernel_rfl) (by simp) ?_
 refine AllReadyH.cons rfl (fun K hK => ?_) AllReadyH.nil
 go_simp
 refine (Xgg (HFd2.out) hnl hq).mono ?_
 rintro e3 w3 ⟨rfl, hch, hfr⟩
 have HW3 := lh ((HWd2.out).loc (w2 := w3) (hch) (Nat.le_succ_of_le hwg) ((HFd2.out).apart (HWd2.out).1 hg1 hg2 (.inr (.inl rfl))))
 have HF3 := lh (hfr)
 clear hch hfr
 have hk4 := (HF3.out).pc
 go_wp2_with fail
 refine hK.out _ _ hk4 (fun hHeld => ?_)
 clear hK K
 refine wpAnyH_ready (rs := [4]) (by kernel_rfl) (by simp) ?_
 refine AllReadyH.cons rfl (fun K hK => ?_) AllReadyH.nil
 go_simp
 refine (stt_yes (HF3.out) htl hq2).mono ?_
 rintro e5 w5 ⟨rfl, hch, hfr⟩
 have HW5 := lh ((HW3.out).loc (w2 := w5) (hch) (Nat.le_succ_of_le hwg) ((HF3.out).apart (HW3.out).1 hg1 hg2 (.inr (.inl rfl))))
 have HF5 := lh (hfr)
 clear hch hfr
 have hk6 := (HF5.out).pc
 go_wp2_with fail
 refine hK.out _ _ hk6 (fun hHeld => ?_)
 clear hK K
 refine wpAnyH_ready (rs := [5]) (by kernel_rfl) (by simp) ?_
 refine AllReadyH.cons rfl (fun K hK => ?_) AllReadyH.nil
 go_simp
 refine hK.out _ _ ((HF5.out).below ((Below.refl _ _).alloc (Nat.le_refl _) _)).pc (fun hHeld => ?_)
 clear hK K
 refine wpAnyH_ready (rs := [6]) (by kernel_rfl) (by simp) ?_
 refine AllReadyH.cons rfl (fun K hK => ?_) AllReadyH.nil
 go_simp
 refine (Xaq (Went.refl (HW5.out).1) (Nat.le_trans hB (HW5.out).2.2.size) [Xbf 8, nm, ty, [59]] (by intro t ht; simp at ht; have := hnl; have := htl; first | (rcases ht with rfl | rfl | rfl | rfl <;> first | decide | assumption | simp) | (rcases ht with rfl | rfl | rfl <;> first | decide | assumption | simp) | (rcases ht with rfl | rfl <;> first | decide | assumption | simp) | (rw [ht]; first | decide | assumption) | (rw [ht]; simp)) (by simp)).mono ?_
 rintro e7 w7 hpost
 cases hR : adv T (some [Xbf 8, nm, ty, [59]]) with
 | none =>
   rw [hR] at hpost
   obtain ⟨rfl, hch⟩ := hpost
   have HNO := lh ((HEQ.out).trans (Xad hR _))
   have HCH := lh ((HW5.out).fell hch)
   clear hR hch
   unfold boom
   go_wp2
   refine ⟨rfl, ?_⟩
   rw [HNO.out]
   exact ⟨rfl, HCH.out⟩
 | some T7 =>
   rw [hR] at hpost
   obtain ⟨rfl, u7, hwent⟩ := hpost
   have HW7 := lh ((HW5.out).trans hwent)
   have HF7 := lh ((HF5.out).went (HW5.out).1 hg1 hg2 hwent)
   have HEQ7 := lh ((HEQ.out).trans (Xae hR _))
   clear hwent hR
   have hk8 := (HF7.out).pc
   go_wp2_with fail
   refine hK.out _ _ hk8 (fun hHeld => ?_)
   clear hK K
   refine wpAnyH_done (by kernel_rfl) ?_ _
   have c2 := (HF7.out).sm.c2
   have c3 := (HF7.out).sm.c3
   have c4 := (HF7.out).sm.c4
   have c5 := (HF7.out).sm.c5
   have c6 := (HF7.out).sm.c6
   have hz0 : (Xaa []).toList = [] := Xaf []
   obtain ⟨m, hm⟩ : ∃ m, m = (ex).length := ⟨_, rfl⟩
   rw [← hm] at c4
   obtain ⟨nb, hnb⟩ : ∃ m, m = bd.length := ⟨_, rfl⟩
   rw [← hnb] at c5
   obtain ⟨ne, hne⟩ : ∃ m, m = el.length := ⟨_, rfl⟩
   rw [← hne] at c6
   by_cases hx : (ex).length = 0
   case neg =>
    have HNO := lh ((HEQ7.out).trans (show adv T7 (need _ (some [])) = none from by rw [Xag (fun h => hx h.1)]; rfl))
    have hl1 : (m == 0) = false := by rw [beq_eq_false_iff_ne]; omega
    have hl2 : ((m : Int) == 0) = false := by rw [beq_eq_false_iff_ne]; omega
    clear hm hnb hne hx
    go_wp2_with fail
    refine (Xah _).mono ?_
    rintro e9 w9 ⟨rfl, rfl⟩
    unfold boom
    go_wp2
    refine ⟨rfl, ?_⟩
    rw [HNO.out]
    exact ⟨rfl, (HW7.out).2.2⟩
   by_cases hbl0 : bd.length = 0
   case neg =>
    have HNO := lh ((HEQ7.out).trans (show adv T7 (need _ (some [])) = none from by rw [Xag (fun h => hbl0 h.2.1)]; rfl))
    obtain rfl : m = 0 := by omega
    have hl1 : (nb == 0) = false := by rw [beq_eq_false_iff_ne]; omega
    have hl2 : ((nb : Int) == 0) = false := by rw [beq_eq_false_iff_ne]; omega
    clear hm hnb hne hx hbl0
    go_wp2_with fail
    refine (Xah _).mono ?_
    rintro e9 w9 ⟨rfl, rfl⟩
    unfold boom
    go_wp2
    refine ⟨rfl, ?_⟩
    rw [HNO.out]
    exact ⟨rfl, (HW7.out).2.2⟩
   by_cases hel0 : el.length = 0
   case neg =>
    have HNO := lh ((HEQ7.out).trans (show adv T7 (need _ (some [])) = none from by rw [Xag (fun h => hel0 h.2.2)]; rfl))
    obtain rfl : m = 0 := by omega
    obtain rfl : nb = 0 := by omega
    have hl1 : (ne == 0) = false := by rw [beq_eq_false_iff_ne]; omega
    have hl2 : ((ne : Int) == 0) = false := by rw [beq_eq_false_iff_ne]; omega
    clear hm hnb hne hx hbl0 hel0
    go_wp2_with fail
    refine (Xah _).mono ?_
    rintro e9 w9 ⟨rfl, rfl⟩
    unfold boom
    go_wp2
    refine ⟨rfl, ?_⟩
    rw [HNO.out]
    exact ⟨rfl, (HW7.out).2.2⟩
   have HFIN := lh ((HEQ7.out).trans (show adv T7 (need _ (some [])) = some T7 from by rw [Xai ⟨hx, hbl0, hel0⟩]; exact Xbe (HW7.out).1.fit))
   obtain rfl : m = 0 := by omega
   obtain rfl : nb = 0 := by omega
   obtain rfl : ne = 0 := by omega
   clear hm hnb hne hx hbl0 hel0
   go_wp2_with fail
   refine (Xaj _).mono ?_
   rintro e9 w9 ⟨rfl, rfl⟩
   go_wp2
   go_end0
   rw [HFIN.out]
   exact ⟨rfl, _, HW7.out⟩
set_option maxRecDepth 100000 in
set_option maxHeartbeats 4000000 in
theorem Xtg {w0 w : World} {Bc Ba B : Nat} {u : Value} {T : List (List UInt8)} {p : Int} {nm ty : List UInt8} {V bv ev : Value} {ex : List Ex} {bd el : List Sm} {d : Int} (hb : Below B w0 w) (hB : B ≤ w.heap.size) (hp : Xap w Bc Ba B u T) (hd0 : 0 ≤ d) (hd : d ≤ 24) (hr : Xbd w0 B ex V) (hnl : nm.length ≤ 40000) (htl : ty.length ≤ 40000)
  (hbd : Xao w0 B bd bv) (hel : Xao w0 B el ev) (hbs : ∃ A c, bv = .slice A bd.length c) (hes : ∃ A c, ev = .slice A el.length c) (hq : ¬ Xam nm = true) :
  Calls Tryz.prog 58 #[penV Bc Ba, .agg #[.int .i64 8, .int .i64 p, .string (Xaa nm), .string (Xaa ty), V, bv, ev], .int .i64 d] w (Xal w Bc Ba B u (adv T (penS (.mk 8 p nm ty ex bd el) d))) := by
 have hmf : ∀ (fn : Fn) (first cap : Array Value) (w : World), (Instr.makeFunc fn first cap).run Tryz.prog w = .ok (.func fn first cap) w := fun _ _ _ _ => rfl
 obtain ⟨A, c, hrv, _, _, _⟩ := id hr
 subst hrv
 obtain ⟨Ab, cb, hbv⟩ := hbs
 subst hbv
 obtain ⟨Ae, ce, hev⟩ := hes
 subst hev
 obtain ⟨X, hX⟩ : ∃ X : World, X = ((w.alloc (.cells #[penV Bc Ba] 49)).alloc (.cells #[.int .i64 8, .int .i64 p, .string (Xaa nm), .string (Xaa ty), .slice A ex.length c, .slice Ab bd.length cb, .slice Ae el.length ce] 38)).alloc (.cells #[.int .i64 d] 3) := ⟨_, rfl⟩
 obtain ⟨g, hg⟩ : ∃ g, g = w.heap.size := ⟨_, rfl⟩
 obtain ⟨hf, hsz⟩ := Xct hX hg
 have hw : Went w Bc Ba B u X u T := by rw [hX]; exact (((Went.refl hp).alloc _).alloc _).alloc _
 have e0 := hf.sm.c0
 have hg1 : Bc < g := by rw [hg]; exact Xab hp.cnt
 have hg2 : Ba < g := by rw [hg]; exact Xab hp.buf
 have hBg : B ≤ g := by rw [hg]; exact hB
 have hwg : w.heap.size ≤ g := by rw [hg]; exact Nat.le_refl _
 have hd50 : d ≤ 50 := by omega
 have HEQ := lh (congrArg (adv T) ((Xvu p nm ty ex bd el d).trans (Xaz hq _)))
 have HXS : Hid (g + 1 + 1 + 1 = X.heap.size) := lh (by rw [hsz])
 have HX := lh hX
 have HG := lh hg
 have HF := lh hf
 have HW := lh hw
 have HR := lh hr
 clear hX hg hf hw hsz hr
 unfold penV at HX ⊢
 go_enter Tryz.func58, Tryz.ntmps58
 have HNO := HEQ
 have pc1 := (HF.out).pc
 have dc1 := (HF.out).dc
 go_wp2_with fail
 rw [← HX.out, ← HG.out]
 refine wp_region_held_drew (S := fun w' => w'.cell? ⟨g, 0, none⟩ = some (.func (.func 27) #[] #[.pointer (some ⟨Bc, 0, none⟩), .pointer (some ⟨Ba, 0, none⟩)])) (by kernel_rfl) pc1 (fun hHeld => ?_)
 have HWd2 := lh ((HW.out).drew)
 have HFd2 := lh ((HF.out).drew)
 refine wpAnyH_take (i := 0) (oi := _) (v := .func (.func 27) #[] #[.pointer (some ⟨Bc, 0, none⟩), .pointer (some ⟨Ba, 0, none⟩)]) rfl (by kernel_rfl) (by kernel_rfl) (by kernel_rfl) (fun _ _ _ h => h) (Or.inl ⟨by rfl, fun w hS => ?_⟩) hHeld ?_
 · go_simp
 simp only [Act.put]
 refine wpAnyH_take (i := 1) (oi := _) (v := .func (.func 68) #[] #[.pointer (some ⟨g + 1, 0, none⟩)]) rfl (by kernel_rfl) (by kernel_rfl) (by kernel_rfl) (fun _ _ _ h => h) (Or.inl ⟨by rfl, fun w hS => ?_⟩) hHeld ?_
 · go_simp
 simp only [Act.put]
 refine wpAnyH_take (i := 3) (oi := _) (v := .pointer (some ⟨g + 1, 3, none⟩)) rfl (by kernel_rfl) (by kernel_rfl) (by kernel_rfl) (fun _ _ _ h => h) (Or.inl ⟨by rfl, fun w hS => ?_⟩) hHeld ?_
 · go_simp
 simp only [Act.put]
 refine wpAnyH_ready (rs := [2]) (by kernel_rfl) (by simp) ?_
 refine AllReadyH.cons rfl (fun K hK => ?_) AllReadyH.nil
 go_simp
 refine (Xkj (HFd2.out) hnl (by simpa using hq)).mono ?_
 rintro e3 w3 ⟨rfl, hbl⟩
 have HCH := lh ((HWd2.out).2.2.trans (Chg.of_below (P := fun _ => False) hbl) (fun _ _ e => e.elim))
 unfold boom
 go_wp2
 refine ⟨rfl, ?_⟩
 rw [HNO.out]
 exact ⟨rfl, HCH.out⟩
set_option maxRecDepth 100000 in
set_option maxHeartbeats 4000000 in
theorem Xth {w0 w : World} {Bc Ba B : Nat} {u : Value} {T : List (List UInt8)} {p : Int} {nm ty : List UInt8} {V bv ev : Value} {ex : List Ex} {bd el : List Sm} {d : Int} (hb : Below B w0 w) (hB : B ≤ w.heap.size) (hp : Xap w Bc Ba B u T) (hd0 : 0 ≤ d) (hd : d ≤ 24) (hr : Xbd w0 B ex V) (hnl : nm.length ≤ 40000) (htl : ty.length ≤ 40000)
  (hbd : Xao w0 B bd bv) (hel : Xao w0 B el ev) (hbs : ∃ A c, bv = .slice A bd.length c) (hes : ∃ A c, ev = .slice A el.length c) (hq : Xam nm = true) (hq2 : ¬ Xam ty = true) :
  Calls Tryz.prog 58 #[penV Bc Ba, .agg #[.int .i64 8, .int .i64 p, .string (Xaa nm), .string (Xaa ty), V, bv, ev], .int .i64 d] w (Xal w Bc Ba B u (adv T (penS (.mk 8 p nm ty ex bd el) d))) := by
 have hmf : ∀ (fn : Fn) (first cap : Array Value) (w : World), (Instr.makeFunc fn first cap).run Tryz.prog w = .ok (.func fn first cap) w := fun _ _ _ _ => rfl
 obtain ⟨A, c, hrv, _, _, _⟩ := id hr
 subst hrv
 obtain ⟨Ab, cb, hbv⟩ := hbs
 subst hbv
 obtain ⟨Ae, ce, hev⟩ := hes
 subst hev
 obtain ⟨X, hX⟩ : ∃ X : World, X = ((w.alloc (.cells #[penV Bc Ba] 49)).alloc (.cells #[.int .i64 8, .int .i64 p, .string (Xaa nm), .string (Xaa ty), .slice A ex.length c, .slice Ab bd.length cb, .slice Ae el.length ce] 38)).alloc (.cells #[.int .i64 d] 3) := ⟨_, rfl⟩
 obtain ⟨g, hg⟩ : ∃ g, g = w.heap.size := ⟨_, rfl⟩
 obtain ⟨hf, hsz⟩ := Xct hX hg
 have hw : Went w Bc Ba B u X u T := by rw [hX]; exact (((Went.refl hp).alloc _).alloc _).alloc _
 have e0 := hf.sm.c0
 have hg1 : Bc < g := by rw [hg]; exact Xab hp.cnt
 have hg2 : Ba < g := by rw [hg]; exact Xab hp.buf
 have hBg : B ≤ g := by rw [hg]; exact hB
 have hwg : w.heap.size ≤ g := by rw [hg]; exact Nat.le_refl _
 have hd50 : d ≤ 50 := by omega
 have HEQ := lh (congrArg (adv T) ((Xvu p nm ty ex bd el d).trans ((Xaw hq _).trans (Xaz hq2 _))))
 have HXS : Hid (g + 1 + 1 + 1 = X.heap.size) := lh (by rw [hsz])
 have HX := lh hX
 have HG := lh hg
 have HF := lh hf
 have HW := lh hw
 have HR := lh hr
 clear hX hg hf hw hsz hr
 unfold penV at HX ⊢
 go_enter Tryz.func58, Tryz.ntmps58
 have HNO := HEQ
 have pc1 := (HF.out).pc
 have dc1 := (HF.out).dc
 go_wp2_with fail
 rw [← HX.out, ← HG.out]
 refine wp_region_held_drew (S := fun w' => w'.cell? ⟨g, 0, none⟩ = some (.func (.func 27) #[] #[.pointer (some ⟨Bc, 0, none⟩), .pointer (some ⟨Ba, 0, none⟩)])) (by kernel_rfl) pc1 (fun hHeld => ?_)
 have HWd2 := lh ((HW.out).drew)
 have HFd2 := lh ((HF.out).drew)
 refine wpAnyH_take (i := 0) (oi := _) (v := .func (.func 27) #[] #[.pointer (some ⟨Bc, 0, none⟩), .pointer (some ⟨Ba, 0, none⟩)]) rfl (by kernel_rfl) (by kernel_rfl) (by kernel_rfl) (fun _ _ _ h => h) (Or.inl ⟨by rfl, fun w hS => ?_⟩) hHeld ?_
 · go_simp
 simp only [Act.put]
 refine wpAnyH_take (i := 1) (oi := _) (v := .func (.func 68) #[] #[.pointer (some ⟨g + 1, 0, none⟩)]) rfl (by kernel_rfl) (by kernel_rfl) (by kernel_rfl) (fun _ _ _ h => h) (Or.inl ⟨by rfl, fun w hS => ?_⟩) hHeld ?_
 · go_simp
 simp only [Act.put]
 refine wpAnyH_take (i := 3) (oi := _) (v := .pointer (some ⟨g + 1, 3, none⟩)) rfl (by kernel_rfl) (by kernel_rfl) (by kernel_rfl) (fun _ _ _ h => h) (Or.inl ⟨by rfl, fun w hS => ?_⟩) hHeld ?_
 · go_simp
 simp only [Act.put]
 refine wpAnyH_ready (rs := [2]) (by kernel_rfl) (by simp) ?_
 refine AllReadyH.cons rfl (fun K hK => ?_) AllReadyH.nil
 go_simp
 refine (Xgg (HFd2.out) hnl hq).mono ?_
 rintro e3 w3 ⟨rfl, hch, hfr⟩
 have HW3 := lh ((HWd2.out).loc (w2 := w3) (hch) (Nat.le_succ_of_le hwg) ((HFd2.out).apart (HWd2.out).1 hg1 hg2 (.inr (.inl rfl))))
 have HF3 := lh (hfr)
 clear hch hfr
 have hk4 := (HF3.out).pc
 go_wp2_with fail
 refine hK.out _ _ hk4 (fun hHeld => ?_)
 clear hK K
 refine wpAnyH_ready (rs := [4]) (by kernel_rfl) (by simp) ?_
 refine AllReadyH.cons rfl (fun K hK => ?_) AllReadyH.nil
 go_simp
 refine (stt_no (HF3.out) htl (by simpa using hq2)).mono ?_
 rintro e5 w5 ⟨rfl, hbl⟩
 have HCH := lh ((HW3.out).2.2.trans (Chg.of_below (P := fun _ => False) hbl) (fun _ _ e => e.elim))
 unfold boom
 go_wp2
 refine ⟨rfl, ?_⟩
 rw [HNO.out]
 exact ⟨rfl, HCH.out⟩
end Go.Proofs.YtodociiaobjfgaaGreatDoor
