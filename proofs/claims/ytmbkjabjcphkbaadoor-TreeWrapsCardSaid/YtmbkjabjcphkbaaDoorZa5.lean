/- Vn; Vo; Vp; Vq -/
import Derived.Test.YtmbkjabjcphkbaaDoorZa4
import Derived.Lib.ItoaLen
section
/- The steps of an expression's writer that take a number, a truth, a sign. -/
set_option linter.unusedVariables false
namespace Go.Proofs.YtmbkjabjcphkbaaDoor
open Go.RowKit

theorem contains_str (l : List (List UInt8)) (s : List UInt8) : Lib.containsS (l.map strOf) (strOf s) = decide (s ∈ l) := by
  rw [Bool.eq_iff_iff, Lib.containsS_iff, decide_eq_true_eq, List.mem_map]
  constructor
  · rintro ⟨t, ht, e⟩
    have := congrArg (fun b : ByteArray => b.data.toList) e
    rw [strOf_data, strOf_data] at this
    rw [← this]; exact ht
  · intro h; exact ⟨s, h, rfl⟩
section
variable {w0 w : World} {g Bc Ba B : Nat} {k p n : Int} {s : List UInt8} {V : Value} {d ch : Int}
theorem ExFr.set_below {w1 w' : World} (h : ExFr w g Bc Ba k p n s V d ch) {i : Nat} {x : Value} (hb : Below w.heap.size (w.setCell ⟨g + 1, i, none⟩ x) w') : Chg (fun b => b = g + 1) w w' :=
  Chg.put_ (p := ⟨g + 1, i, none⟩) (Below.refl _ w) rfl hb
theorem num_yes (hf : ExFr w g Bc Ba k p n s V d ch) (hb : Below B w0 w) (hBg : B ≤ g) (htab : Lib.TabBelow Tryd.prog B w0 "internal/strconv.uint64pow10" .u64 Lib.pow10Tab) (h : 0 ≤ n ∧ n ≤ 999999999999999999) :
    Calls Tryd.prog 54 #[.pointer (some ⟨g + 1, 2, none⟩), .int .i64 0, .int .i64 999999999999999999] w fun e w' => e = .returned (.string (strOf (Lib.itoa n))) ∧ Chg (fun b => b = g + 1) w w' ∧ ExFr w' g Bc Ba k p 0 s V d ch := by
  refine (takeNum_yes ⟨g + 1, 2, none⟩ n 0 999999999999999999 w hf.ex.c2 (hf.ex.fr 2) h.1 h.2 (by omega) (by omega) (fun x => htab _ (hb.setCell (by simp; omega) _))).mono ?_
  rintro e w' ⟨rfl, hbl⟩
  exact ⟨rfl, hf.set_below (w1 := w') hbl, (hf.set2 0).keep fun b hb => hbl.block b (hf.lt hb)⟩
theorem num_no (hf : ExFr w g Bc Ba k p n s V d ch) (h : ¬ (0 ≤ n ∧ n ≤ 999999999999999999)) :
    Calls Tryd.prog 54 #[.pointer (some ⟨g + 1, 2, none⟩), .int .i64 0, .int .i64 999999999999999999] w fun e w' => e = boom ∧ Below w.heap.size w w' :=
  (takeNum_no ⟨g + 1, 2, none⟩ n 0 999999999999999999 w hf.ex.c2 h).mono fun e w' h => ⟨h.1, by rw [← h.2]; exact Below.refl _ _⟩
theorem bool_yes (hf : ExFr w g Bc Ba k p n s V d ch) (h : n = 0 ∨ n = 1) (tx : List UInt8) (htx : tx = if n = 1 then [116, 114, 117, 101] else [102, 97, 108, 115, 101]) :
    Calls Tryd.prog 55 #[.pointer (some ⟨g + 1, 2, none⟩)] w fun e w' => e = .returned (.string (strOf tx)) ∧ Chg (fun b => b = g + 1) w w' ∧ ExFr w' g Bc Ba k p 0 s V d ch := by
  subst htx
  refine (takeBool_yes ⟨g + 1, 2, none⟩ n w hf.ex.c2 (hf.ex.fr 2) h).mono ?_
  rintro e w' ⟨rfl, rfl⟩
  exact ⟨rfl, (Chg.refl _ w).setCell _ _ (fun _ => rfl), hf.set2 0⟩
theorem bool_no (hf : ExFr w g Bc Ba k p n s V d ch) (h : ¬ (n = 0 ∨ n = 1)) :
    Calls Tryd.prog 55 #[.pointer (some ⟨g + 1, 2, none⟩)] w fun e w' => e = boom ∧ Below w.heap.size w w' :=
  (takeBool_no ⟨g + 1, 2, none⟩ n w hf.ex.c2 h).mono fun e w' h => ⟨h.1, by rw [← h.2]; exact Below.refl _ _⟩
theorem sign_new (hf : ExFr w g Bc Ba k p n s V d ch) (l : List (List UInt8)) (hl : l.length ≤ 1000) :
    Calls Tryd.prog 56 #[.pointer (some ⟨g + 1, 3, none⟩), .slice (some ⟨w.heap.size, 0, none⟩) l.length l.length] (w.alloc (.cells (strCells l) 9)) fun e w' =>
      (s ∈ l → e = .returned (.string (strOf s)) ∧ Chg (fun b => b = g + 1) w w' ∧ ExFr w' g Bc Ba k p n [] V d ch) ∧ (¬ s ∈ l → e = boom ∧ Below w.heap.size w w') := by
  have ha : Below w.heap.size w (w.alloc (.cells (strCells l) 9)) := (Below.refl _ w).alloc (Nat.le_refl _) _
  have hf' := hf.below ha
  refine (takeSign_any ⟨g + 1, 3, none⟩ s w.heap.size l.length l.length (l.map strOf) _ hf'.ex.c3 (hf'.ex.fr 3) (by simp) hl (fun j hj => ?_) (decide (s ∈ l)) (contains_str l s).symm).mono ?_
  · rw [Nat.zero_add, cell_of_row _ w.heap.size j _ _ (0, 0) (heap_alloc_new w _)]
    have hj' : j < l.length := by simpa using hj
    simp [strCells, List.getD, List.getElem?_eq_getElem hj']
  · rintro e w' ⟨h1, h2⟩
    refine ⟨fun h => ?_, fun h => ?_⟩
    · obtain ⟨h3, h4⟩ := h1 (by simpa using h)
      refine ⟨h3, ?_, ?_⟩
      · rw [h4]; exact ((Chg.refl _ w).alloc _).setCell _ _ (fun _ => rfl)
      · rw [h4]; exact hf'.set3 []
    · obtain ⟨h3, h4⟩ := h2 (by simpa using h)
      exact ⟨h3, by rw [← h4]; exact ha⟩
end

end Go.Proofs.YtmbkjabjcphkbaaDoor
end
section
/- The walks of an expression, kind by kind. -/
set_option linter.unusedVariables false
namespace Go.Proofs.YtmbkjabjcphkbaaDoor
open Go.RowKit

set_option maxRecDepth 100000 in
set_option maxHeartbeats 2000000 in
theorem expr_4_yes {w0 w : World} {Bc Ba B : Nat} {u : Value} {T : List (List UInt8)} {p n : Int} {s : List UInt8} {r : Value} {args : List Ex} {d ch : Int} (hb : Below B w0 w) (hB : B ≤ w.heap.size) (hp : PenAt w Bc Ba B u T) (hd0 : 0 ≤ d) (hd : d ≤ 24) (hc0 : 0 ≤ ch) (hr : Reads w0 B args r) (hs : s.length ≤ 40000) (hq : nameB s = true) :
    Calls Tryd.prog 28 #[penV Bc Ba, .agg #[.int .i64 4, .int .i64 p, .int .i64 n, .string (strOf s), r], .int .i64 d, .int .i64 ch] w (PenPost w Bc Ba B u (adv T (penE (.mk 4 p n s args) d ch))) := by
  have hmf : ∀ (fn : Fn) (first cap : Array Value) (w : World), (Instr.makeFunc fn first cap).run Tryd.prog w = .ok (.func fn first cap) w := fun _ _ _ _ => rfl
  obtain ⟨A, c, hrv, _, _, _⟩ := id hr
  subst hrv
  obtain ⟨X, hX⟩ : ∃ X : World, X = (((w.alloc (.cells #[penV Bc Ba] 63)).alloc (.cells #[.int .i64 4, .int .i64 p, .int .i64 n, .string (strOf s), .slice A args.length c] 24)).alloc (.cells #[.int .i64 d] 3)).alloc (.cells #[.int .i64 ch] 3) := ⟨_, rfl⟩
  obtain ⟨g, hg⟩ : ∃ g, g = w.heap.size := ⟨_, rfl⟩
  obtain ⟨hf, hsz⟩ := fr_new hX hg
  have hw : Went w Bc Ba B u X u T := by rw [hX]; exact ((((Went.refl hp).alloc _).alloc _).alloc _).alloc _
  have e0 := hf.ex.c0
  have hg1 : Bc < g := by rw [hg]; exact lt_of_heap hp.cnt
  have hg2 : Ba < g := by rw [hg]; exact lt_of_heap hp.buf
  have hBg : B ≤ g := by rw [hg]; exact hB
  have hwg : w.heap.size ≤ g := by rw [hg]; exact Nat.le_refl _
  have hd50 : d ≤ 50 := by omega
  have HEQ := Lib.hid (congrArg (adv T) ((penE_4 p n s args d ch hd).trans (need_cat_yes hq _)))
  have HX := Lib.hid hX
  have HG := Lib.hid hg
  have HF := Lib.hid hf
  have HW := Lib.hid hw
  have HR := Lib.hid hr
  clear hX hg hf hw hsz hr
  unfold penV at HX ⊢
  go_enter Tryd.func28, Tryd.ntmps28
  go_wp2_with fail
  rw [← HX.out, ← HG.out]
  refine (must_yes _).mono ?_
  rintro e1 w1 ⟨rfl, rfl⟩
  have pc1 := (HF.out).pc
  go_wp2_with fail
  refine wp_region_held_drew (S := fun w' => w'.cell? ⟨g, 0, none⟩ = some (.func (.func 47) #[] #[.pointer (some ⟨Bc, 0, none⟩), .pointer (some ⟨Ba, 0, none⟩)])) (by kernel_rfl) pc1 (fun hHeld => ?_)
  have HWd2 := Lib.hid ((HW.out).drew)
  have HFd2 := Lib.hid ((HF.out).drew)
  refine wpAnyH_take (i := 0) (oi := _) (v := .func (.func 47) #[] #[.pointer (some ⟨Bc, 0, none⟩), .pointer (some ⟨Ba, 0, none⟩)]) rfl (by kernel_rfl) (by kernel_rfl) (by kernel_rfl) (fun _ _ _ h => h) (Or.inl ⟨by rfl, fun w hS => ?_⟩) hHeld ?_
  · go_simp
  simp only [Act.put]
  refine wpAnyH_take (i := 1) (oi := _) (v := .func (.func 49) #[] #[.pointer (some ⟨g + 1, 0, none⟩)]) rfl (by kernel_rfl) (by kernel_rfl) (by kernel_rfl) (fun _ _ _ h => h) (Or.inl ⟨by rfl, fun w hS => ?_⟩) hHeld ?_
  · go_simp
  simp only [Act.put]
  refine wpAnyH_ready (rs := [2]) (by kernel_rfl) (by simp) ?_
  refine AllReadyH.cons rfl (fun K hK => ?_) AllReadyH.nil
  go_simp
  refine (name_yes (HFd2.out) hs hq).mono ?_
  rintro e3 w3 ⟨rfl, hch, hfr⟩
  have HW3 := Lib.hid ((HWd2.out).loc (w2 := w3) (hch) (Nat.le_succ_of_le hwg) ((HFd2.out).nm (HWd2.out).1 hg1 hg2 (.inr (.inl rfl))))
  have HF3 : Hid (ExFr w3 g Bc Ba 4 p n [] _ d ch) := Lib.hid (hfr)
  clear hch hfr
  have hk4 := (HF3.out).pc
  go_wp2_with fail
  refine hK.out _ _ hk4 (fun hHeld => ?_)
  clear hK K
  refine wpAnyH_ready (rs := [3]) (by kernel_rfl) (by simp) ?_
  refine AllReadyH.cons rfl (fun K hK => ?_) AllReadyH.nil
  go_simp
  refine hK.out _ _ ((HF3.out).below ((Below.refl _ _).alloc (Nat.le_refl _) _)).pc (fun hHeld => ?_)
  clear hK K
  refine wpAnyH_ready (rs := [4]) (by kernel_rfl) (by simp) ?_
  refine AllReadyH.cons rfl (fun K hK => ?_) AllReadyH.nil
  go_simp
  refine (put_new (Went.refl (HW3.out).1) (Nat.le_trans hB (HW3.out).2.2.size) [s] (by intro t ht; simp at ht; have := hs; first | (rcases ht with rfl | rfl | rfl <;> first | decide | exact hs | simp) | (rw [ht]; first | decide | exact hs) | (rw [ht]; simp)) (by simp)).mono ?_
  rintro e5 w5 hpost
  cases hR : adv T (some [s]) with
  | none =>
    rw [hR] at hpost
    obtain ⟨rfl, hch⟩ := hpost
    have HNO := Lib.hid ((HEQ.out).trans (adv_cat_none hR _))
    have HCH := Lib.hid ((HW3.out).fell hch)
    clear hR hch
    unfold boom
    go_wp2
    refine ⟨rfl, ?_⟩
    rw [HNO.out]
    exact ⟨rfl, HCH.out⟩
  | some T5 =>
    rw [hR] at hpost
    obtain ⟨rfl, u5, hwent⟩ := hpost
    have HW5 := Lib.hid ((HW3.out).trans hwent)
    have HF5 := Lib.hid ((HF3.out).went (HW3.out).1 hg1 hg2 hwent)
    have HEQ5 := Lib.hid ((HEQ.out).trans (adv_cat_some hR _))
    clear hwent hR
    have hk6 := (HF5.out).pc
    go_wp2_with fail
    refine hK.out _ _ hk6 (fun hHeld => ?_)
    clear hK K
    refine wpAnyH_done (by kernel_rfl) ?_ _
    have c2 := (HF5.out).ex.c2
    have c3 := (HF5.out).ex.c3
    have c4 := (HF5.out).ex.c4
    have hz0 : (strOf []).toList = [] := strOf_toList []
    obtain ⟨m, hm⟩ : ∃ m, m = (args).length := ⟨_, rfl⟩
    rw [← hm] at c4
    by_cases hn : n = 0
    case neg =>
      have HNO := Lib.hid ((HEQ5.out).trans (show adv T5 (need _ (some [])) = none from by rw [need_no (fun h => hn h.1)]; rfl))
      clear hm
      go_wp2_with fail
      refine (must_no _).mono ?_
      rintro e9 w9 ⟨rfl, rfl⟩
      unfold boom
      go_wp2
      refine ⟨rfl, ?_⟩
      rw [HNO.out]
      exact ⟨rfl, (HW5.out).2.2⟩
    by_cases hl0 : (args).length = 0
    case neg =>
      have HNO := Lib.hid ((HEQ5.out).trans (show adv T5 (need _ (some [])) = none from by rw [need_no (fun h => hl0 h.2)]; rfl))
      subst hn
      have hl1 : ((m : Int) == 0) = false := by rw [beq_eq_false_iff_ne]; omega
      clear hm
      clear hl0
      go_wp2_with fail
      refine (must_no _).mono ?_
      rintro e9 w9 ⟨rfl, rfl⟩
      unfold boom
      go_wp2
      refine ⟨rfl, ?_⟩
      rw [HNO.out]
      exact ⟨rfl, (HW5.out).2.2⟩
    have HFIN := Lib.hid ((HEQ5.out).trans (show adv T5 (need _ (some [])) = some T5 from by rw [need_yes ⟨hn, hl0⟩]; exact adv_nil (HW5.out).1.fit))
    subst hn
    obtain rfl : m = 0 := by omega
    clear hm hl0
    go_wp2_with fail
    refine (must_yes _).mono ?_
    rintro e9 w9 ⟨rfl, rfl⟩
    go_wp2
    go_end0
    rw [HFIN.out]
    exact ⟨rfl, _, HW5.out⟩

set_option maxRecDepth 100000 in
set_option maxHeartbeats 2000000 in
theorem expr_4_no {w0 w : World} {Bc Ba B : Nat} {u : Value} {T : List (List UInt8)} {p n : Int} {s : List UInt8} {r : Value} {args : List Ex} {d ch : Int} (hb : Below B w0 w) (hB : B ≤ w.heap.size) (hp : PenAt w Bc Ba B u T) (hd0 : 0 ≤ d) (hd : d ≤ 24) (hc0 : 0 ≤ ch) (hr : Reads w0 B args r) (hs : s.length ≤ 40000) (hq : ¬ (nameB s = true)) :
    Calls Tryd.prog 28 #[penV Bc Ba, .agg #[.int .i64 4, .int .i64 p, .int .i64 n, .string (strOf s), r], .int .i64 d, .int .i64 ch] w (PenPost w Bc Ba B u (adv T (penE (.mk 4 p n s args) d ch))) := by
  have hmf : ∀ (fn : Fn) (first cap : Array Value) (w : World), (Instr.makeFunc fn first cap).run Tryd.prog w = .ok (.func fn first cap) w := fun _ _ _ _ => rfl
  obtain ⟨A, c, hrv, _, _, _⟩ := id hr
  subst hrv
  obtain ⟨X, hX⟩ : ∃ X : World, X = (((w.alloc (.cells #[penV Bc Ba] 63)).alloc (.cells #[.int .i64 4, .int .i64 p, .int .i64 n, .string (strOf s), .slice A args.length c] 24)).alloc (.cells #[.int .i64 d] 3)).alloc (.cells #[.int .i64 ch] 3) := ⟨_, rfl⟩
  obtain ⟨g, hg⟩ : ∃ g, g = w.heap.size := ⟨_, rfl⟩
  obtain ⟨hf, hsz⟩ := fr_new hX hg
  have hw : Went w Bc Ba B u X u T := by rw [hX]; exact ((((Went.refl hp).alloc _).alloc _).alloc _).alloc _
  have e0 := hf.ex.c0
  have hg1 : Bc < g := by rw [hg]; exact lt_of_heap hp.cnt
  have hg2 : Ba < g := by rw [hg]; exact lt_of_heap hp.buf
  have hBg : B ≤ g := by rw [hg]; exact hB
  have hwg : w.heap.size ≤ g := by rw [hg]; exact Nat.le_refl _
  have hd50 : d ≤ 50 := by omega
  have HEQ := Lib.hid (congrArg (adv T) ((penE_4 p n s args d ch hd).trans (need_cat_no hq _)))
  have HX := Lib.hid hX
  have HG := Lib.hid hg
  have HF := Lib.hid hf
  have HW := Lib.hid hw
  have HR := Lib.hid hr
  clear hX hg hf hw hsz hr
  unfold penV at HX ⊢
  go_enter Tryd.func28, Tryd.ntmps28
  go_wp2_with fail
  rw [← HX.out, ← HG.out]
  refine (must_yes _).mono ?_
  rintro e1 w1 ⟨rfl, rfl⟩
  have HNO := HEQ
  have pc1 := (HF.out).pc
  go_wp2_with fail
  refine wp_region_held_drew (S := fun w' => w'.cell? ⟨g, 0, none⟩ = some (.func (.func 47) #[] #[.pointer (some ⟨Bc, 0, none⟩), .pointer (some ⟨Ba, 0, none⟩)])) (by kernel_rfl) pc1 (fun hHeld => ?_)
  have HWd2 := Lib.hid ((HW.out).drew)
  have HFd2 := Lib.hid ((HF.out).drew)
  refine wpAnyH_take (i := 0) (oi := _) (v := .func (.func 47) #[] #[.pointer (some ⟨Bc, 0, none⟩), .pointer (some ⟨Ba, 0, none⟩)]) rfl (by kernel_rfl) (by kernel_rfl) (by kernel_rfl) (fun _ _ _ h => h) (Or.inl ⟨by rfl, fun w hS => ?_⟩) hHeld ?_
  · go_simp
  simp only [Act.put]
  refine wpAnyH_take (i := 1) (oi := _) (v := .func (.func 49) #[] #[.pointer (some ⟨g + 1, 0, none⟩)]) rfl (by kernel_rfl) (by kernel_rfl) (by kernel_rfl) (fun _ _ _ h => h) (Or.inl ⟨by rfl, fun w hS => ?_⟩) hHeld ?_
  · go_simp
  simp only [Act.put]
  refine wpAnyH_ready (rs := [2]) (by kernel_rfl) (by simp) ?_
  refine AllReadyH.cons rfl (fun K hK => ?_) AllReadyH.nil
  go_simp
  refine (name_no (HFd2.out) hs (by simpa using hq)).mono ?_
  rintro e3 w3 ⟨rfl, hbl⟩
  have HCH := Lib.hid ((HWd2.out).2.2.trans (Chg.of_below (P := fun _ => False) hbl) (fun _ _ e => e.elim))
  unfold boom
  go_wp2
  refine ⟨rfl, ?_⟩
  rw [HNO.out]
  exact ⟨rfl, HCH.out⟩

set_option maxRecDepth 100000 in
set_option maxHeartbeats 2000000 in
theorem expr_5_yes {w0 w : World} {Bc Ba B : Nat} {u : Value} {T : List (List UInt8)} {p n : Int} {s : List UInt8} {r : Value} {args : List Ex} {d ch : Int} (hb : Below B w0 w) (hB : B ≤ w.heap.size) (hp : PenAt w Bc Ba B u T) (hd0 : 0 ≤ d) (hd : d ≤ 24) (hc0 : 0 ≤ ch) (hr : Reads w0 B args r) (hs : s.length ≤ 40000) (hq : nameB s = true) :
    Calls Tryd.prog 28 #[penV Bc Ba, .agg #[.int .i64 5, .int .i64 p, .int .i64 n, .string (strOf s), r], .int .i64 d, .int .i64 ch] w (PenPost w Bc Ba B u (adv T (penE (.mk 5 p n s args) d ch))) := by
  have hmf : ∀ (fn : Fn) (first cap : Array Value) (w : World), (Instr.makeFunc fn first cap).run Tryd.prog w = .ok (.func fn first cap) w := fun _ _ _ _ => rfl
  obtain ⟨A, c, hrv, _, _, _⟩ := id hr
  subst hrv
  obtain ⟨X, hX⟩ : ∃ X : World, X = (((w.alloc (.cells #[penV Bc Ba] 63)).alloc (.cells #[.int .i64 5, .int .i64 p, .int .i64 n, .string (strOf s), .slice A args.length c] 24)).alloc (.cells #[.int .i64 d] 3)).alloc (.cells #[.int .i64 ch] 3) := ⟨_, rfl⟩
  obtain ⟨g, hg⟩ : ∃ g, g = w.heap.size := ⟨_, rfl⟩
  obtain ⟨hf, hsz⟩ := fr_new hX hg
  have hw : Went w Bc Ba B u X u T := by rw [hX]; exact ((((Went.refl hp).alloc _).alloc _).alloc _).alloc _
  have e0 := hf.ex.c0
  have hg1 : Bc < g := by rw [hg]; exact lt_of_heap hp.cnt
  have hg2 : Ba < g := by rw [hg]; exact lt_of_heap hp.buf
  have hBg : B ≤ g := by rw [hg]; exact hB
  have hwg : w.heap.size ≤ g := by rw [hg]; exact Nat.le_refl _
  have hd50 : d ≤ 50 := by omega
  have HEQ := Lib.hid (congrArg (adv T) ((penE_5 p n s args d ch hd).trans (need_cat_yes hq _)))
  have HX := Lib.hid hX
  have HG := Lib.hid hg
  have HF := Lib.hid hf
  have HW := Lib.hid hw
  have HR := Lib.hid hr
  clear hX hg hf hw hsz hr
  unfold penV at HX ⊢
  go_enter Tryd.func28, Tryd.ntmps28
  go_wp2_with fail
  rw [← HX.out, ← HG.out]
  refine (must_yes _).mono ?_
  rintro e1 w1 ⟨rfl, rfl⟩
  have pc1 := (HF.out).pc
  go_wp2_with fail
  refine (name_yes (HF.out) hs hq).mono ?_
  rintro e2 w2 ⟨rfl, hch, hfr⟩
  have HW2 := Lib.hid ((HW.out).loc (w2 := w2) (hch) (Nat.le_succ_of_le hwg) ((HF.out).nm (HW.out).1 hg1 hg2 (.inr (.inl rfl))))
  have HF2 : Hid (ExFr w2 g Bc Ba 5 p n [] _ d ch) := Lib.hid (hfr)
  clear hch hfr
  have pc3 := (HF2.out).pc
  go_wp2_with fail
  refine (obj_new (hb.trans ((HW2.out).2.2.below hB (fun x hx => (hp.mine hx).1))) hBg hg1 hg2 (HW2.out).1 (HF2.out) (HR.out) hd0 hd50 hc0 [[46], s] (by intro t ht; simp at ht; have := hs; first | (rcases ht with rfl | rfl | rfl <;> first | decide | exact hs | simp) | (rw [ht]; first | decide | exact hs) | (rw [ht]; simp)) (by simp)).mono ?_
  rintro e4 w4 hpost
  cases hR : adv T (objC args d ch [[46], s]) with
  | none =>
    rw [hR] at hpost
    obtain ⟨rfl, hch⟩ := hpost
    have HNO := Lib.hid ((HEQ.out).trans (adv_cat_none hR _))
    have HCH := Lib.hid ((HW2.out).fell_fr hwg hch)
    clear hR hch
    unfold boom
    go_wp2
    refine ⟨rfl, ?_⟩
    rw [HNO.out]
    exact ⟨rfl, HCH.out⟩
  | some T4 =>
    rw [hR] at hpost
    obtain ⟨rfl, u4, V4, hpA, hown, hch, hfr, hrd⟩ := hpost
    obtain ⟨A4, c4, hV, _, _, _⟩ := id hrd
    subst hV
    have HW4 := Lib.hid ((HW2.out).fr hwg hpA hown hch)
    have HF4 := Lib.hid hfr
    have HR4 := Lib.hid hrd
    have HEQ4 := Lib.hid ((HEQ.out).trans (adv_cat_some hR _))
    clear hpA hown hch hfr hrd hR
    have c2 := (HF4.out).ex.c2
    have c3 := (HF4.out).ex.c3
    have c4 := (HF4.out).ex.c4
    have hz0 : (strOf []).toList = [] := strOf_toList []
    obtain ⟨m, hm⟩ : ∃ m, m = (args.tail).length := ⟨_, rfl⟩
    rw [← hm] at c4
    by_cases hn : n = 0
    case neg =>
      have HNO := Lib.hid ((HEQ4.out).trans (show adv T4 (need _ (some [])) = none from by rw [need_no (fun h => hn h.1)]; rfl))
      clear hm
      go_wp2_with fail
      refine (must_no _).mono ?_
      rintro e9 w9 ⟨rfl, rfl⟩
      unfold boom
      go_wp2
      refine ⟨rfl, ?_⟩
      rw [HNO.out]
      exact ⟨rfl, (HW4.out).2.2⟩
    by_cases hl0 : (args.tail).length = 0
    case neg =>
      have HNO := Lib.hid ((HEQ4.out).trans (show adv T4 (need _ (some [])) = none from by rw [need_no (fun h => hl0 h.2)]; rfl))
      subst hn
      have hl1 : ((m : Int) == 0) = false := by rw [beq_eq_false_iff_ne]; omega
      clear hm
      clear hl0
      go_wp2_with fail
      refine (must_no _).mono ?_
      rintro e9 w9 ⟨rfl, rfl⟩
      unfold boom
      go_wp2
      refine ⟨rfl, ?_⟩
      rw [HNO.out]
      exact ⟨rfl, (HW4.out).2.2⟩
    have HFIN := Lib.hid ((HEQ4.out).trans (show adv T4 (need _ (some [])) = some T4 from by rw [need_yes ⟨hn, hl0⟩]; exact adv_nil (HW4.out).1.fit))
    subst hn
    obtain rfl : m = 0 := by omega
    clear hm hl0
    go_wp2_with fail
    refine (must_yes _).mono ?_
    rintro e9 w9 ⟨rfl, rfl⟩
    go_wp2
    go_end0
    rw [HFIN.out]
    exact ⟨rfl, _, HW4.out⟩

set_option maxRecDepth 100000 in
set_option maxHeartbeats 2000000 in
theorem expr_5_no {w0 w : World} {Bc Ba B : Nat} {u : Value} {T : List (List UInt8)} {p n : Int} {s : List UInt8} {r : Value} {args : List Ex} {d ch : Int} (hb : Below B w0 w) (hB : B ≤ w.heap.size) (hp : PenAt w Bc Ba B u T) (hd0 : 0 ≤ d) (hd : d ≤ 24) (hc0 : 0 ≤ ch) (hr : Reads w0 B args r) (hs : s.length ≤ 40000) (hq : ¬ (nameB s = true)) :
    Calls Tryd.prog 28 #[penV Bc Ba, .agg #[.int .i64 5, .int .i64 p, .int .i64 n, .string (strOf s), r], .int .i64 d, .int .i64 ch] w (PenPost w Bc Ba B u (adv T (penE (.mk 5 p n s args) d ch))) := by
  have hmf : ∀ (fn : Fn) (first cap : Array Value) (w : World), (Instr.makeFunc fn first cap).run Tryd.prog w = .ok (.func fn first cap) w := fun _ _ _ _ => rfl
  obtain ⟨A, c, hrv, _, _, _⟩ := id hr
  subst hrv
  obtain ⟨X, hX⟩ : ∃ X : World, X = (((w.alloc (.cells #[penV Bc Ba] 63)).alloc (.cells #[.int .i64 5, .int .i64 p, .int .i64 n, .string (strOf s), .slice A args.length c] 24)).alloc (.cells #[.int .i64 d] 3)).alloc (.cells #[.int .i64 ch] 3) := ⟨_, rfl⟩
  obtain ⟨g, hg⟩ : ∃ g, g = w.heap.size := ⟨_, rfl⟩
  obtain ⟨hf, hsz⟩ := fr_new hX hg
  have hw : Went w Bc Ba B u X u T := by rw [hX]; exact ((((Went.refl hp).alloc _).alloc _).alloc _).alloc _
  have e0 := hf.ex.c0
  have hg1 : Bc < g := by rw [hg]; exact lt_of_heap hp.cnt
  have hg2 : Ba < g := by rw [hg]; exact lt_of_heap hp.buf
  have hBg : B ≤ g := by rw [hg]; exact hB
  have hwg : w.heap.size ≤ g := by rw [hg]; exact Nat.le_refl _
  have hd50 : d ≤ 50 := by omega
  have HEQ := Lib.hid (congrArg (adv T) ((penE_5 p n s args d ch hd).trans (need_cat_no hq _)))
  have HX := Lib.hid hX
  have HG := Lib.hid hg
  have HF := Lib.hid hf
  have HW := Lib.hid hw
  have HR := Lib.hid hr
  clear hX hg hf hw hsz hr
  unfold penV at HX ⊢
  go_enter Tryd.func28, Tryd.ntmps28
  go_wp2_with fail
  rw [← HX.out, ← HG.out]
  refine (must_yes _).mono ?_
  rintro e1 w1 ⟨rfl, rfl⟩
  have HNO := HEQ
  have pc1 := (HF.out).pc
  go_wp2_with fail
  refine (name_no (HF.out) hs (by simpa using hq)).mono ?_
  rintro e2 w2 ⟨rfl, hbl⟩
  have HCH := Lib.hid ((HW.out).2.2.trans (Chg.of_below (P := fun _ => False) hbl) (fun _ _ e => e.elim))
  unfold boom
  go_wp2
  refine ⟨rfl, ?_⟩
  rw [HNO.out]
  exact ⟨rfl, HCH.out⟩

end Go.Proofs.YtmbkjabjcphkbaaDoor
end
section
/- The walks of an expression, kind by kind. -/
set_option linter.unusedVariables false
namespace Go.Proofs.YtmbkjabjcphkbaaDoor
open Go.RowKit

set_option maxRecDepth 100000 in
set_option maxHeartbeats 2000000 in
theorem expr_1_yes {w0 w : World} {Bc Ba B : Nat} {u : Value} {T : List (List UInt8)} {p n : Int} {s : List UInt8} {r : Value} {args : List Ex} {d ch : Int} (hb : Below B w0 w) (hB : B ≤ w.heap.size) (hp : PenAt w Bc Ba B u T) (hd0 : 0 ≤ d) (hd : d ≤ 24) (hc0 : 0 ≤ ch) (hr : Reads w0 B args r) (hs : s.length ≤ 40000) (htab : Lib.TabBelow Tryd.prog B w0 "internal/strconv.uint64pow10" .u64 Lib.pow10Tab) (hq : 0 ≤ n ∧ n ≤ 999999999999999999) :
    Calls Tryd.prog 28 #[penV Bc Ba, .agg #[.int .i64 1, .int .i64 p, .int .i64 n, .string (strOf s), r], .int .i64 d, .int .i64 ch] w (PenPost w Bc Ba B u (adv T (penE (.mk 1 p n s args) d ch))) := by
  have hmf : ∀ (fn : Fn) (first cap : Array Value) (w : World), (Instr.makeFunc fn first cap).run Tryd.prog w = .ok (.func fn first cap) w := fun _ _ _ _ => rfl
  obtain ⟨A, c, hrv, _, _, _⟩ := id hr
  subst hrv
  obtain ⟨X, hX⟩ : ∃ X : World, X = (((w.alloc (.cells #[penV Bc Ba] 63)).alloc (.cells #[.int .i64 1, .int .i64 p, .int .i64 n, .string (strOf s), .slice A args.length c] 24)).alloc (.cells #[.int .i64 d] 3)).alloc (.cells #[.int .i64 ch] 3) := ⟨_, rfl⟩
  obtain ⟨g, hg⟩ : ∃ g, g = w.heap.size := ⟨_, rfl⟩
  obtain ⟨hf, hsz⟩ := fr_new hX hg
  have hw : Went w Bc Ba B u X u T := by rw [hX]; exact ((((Went.refl hp).alloc _).alloc _).alloc _).alloc _
  have e0 := hf.ex.c0
  have hg1 : Bc < g := by rw [hg]; exact lt_of_heap hp.cnt
  have hg2 : Ba < g := by rw [hg]; exact lt_of_heap hp.buf
  have hBg : B ≤ g := by rw [hg]; exact hB
  have hwg : w.heap.size ≤ g := by rw [hg]; exact Nat.le_refl _
  have hd50 : d ≤ 50 := by omega
  have HEQ := Lib.hid (congrArg (adv T) ((penE_1 p n s args d ch hd).trans (need_cat_yes hq _)))
  have HX := Lib.hid hX
  have HG := Lib.hid hg
  have HF := Lib.hid hf
  have HW := Lib.hid hw
  have HR := Lib.hid hr
  clear hX hg hf hw hsz hr
  unfold penV at HX ⊢
  go_enter Tryd.func28, Tryd.ntmps28
  go_wp2_with fail
  rw [← HX.out, ← HG.out]
  refine (must_yes _).mono ?_
  rintro e1 w1 ⟨rfl, rfl⟩
  have pc1 := (HF.out).pc
  go_wp2_with fail
  refine wp_region_held_drew (S := fun w' => w'.cell? ⟨g, 0, none⟩ = some (.func (.func 47) #[] #[.pointer (some ⟨Bc, 0, none⟩), .pointer (some ⟨Ba, 0, none⟩)])) (by kernel_rfl) pc1 (fun hHeld => ?_)
  have HWd2 := Lib.hid ((HW.out).drew)
  have HFd2 := Lib.hid ((HF.out).drew)
  refine wpAnyH_take (i := 0) (oi := _) (v := .func (.func 47) #[] #[.pointer (some ⟨Bc, 0, none⟩), .pointer (some ⟨Ba, 0, none⟩)]) rfl (by kernel_rfl) (by kernel_rfl) (by kernel_rfl) (fun _ _ _ h => h) (Or.inl ⟨by rfl, fun w hS => ?_⟩) hHeld ?_
  · go_simp
  simp only [Act.put]
  refine wpAnyH_take (i := 1) (oi := _) (v := .pointer (some ⟨g + 1, 2, none⟩)) rfl (by kernel_rfl) (by kernel_rfl) (by kernel_rfl) (fun _ _ _ h => h) (Or.inl ⟨by rfl, fun w hS => ?_⟩) hHeld ?_
  · go_simp
  simp only [Act.put]
  refine wpAnyH_ready (rs := [2]) (by kernel_rfl) (by simp) ?_
  refine AllReadyH.cons rfl (fun K hK => ?_) AllReadyH.nil
  go_simp
  have HBD := Lib.hid (hb.trans ((HWd2.out).2.2.below hB (fun x hx => (hp.mine hx).1)))
  refine (num_yes (HFd2.out) HBD.out hBg htab hq).mono ?_
  rintro e3 w3 ⟨rfl, hch, hfr⟩
  have HW3 := Lib.hid ((HWd2.out).loc (w2 := w3) (hch) (Nat.le_succ_of_le hwg) ((HFd2.out).nm (HWd2.out).1 hg1 hg2 (.inr (.inl rfl))))
  have HF3 : Hid (ExFr w3 g Bc Ba 1 p 0 s _ d ch) := Lib.hid (hfr)
  clear hch hfr
  have hk4 := (HF3.out).pc
  go_wp2_with fail
  refine hK.out _ _ hk4 (fun hHeld => ?_)
  clear hK K
  refine wpAnyH_ready (rs := [3]) (by kernel_rfl) (by simp) ?_
  refine AllReadyH.cons rfl (fun K hK => ?_) AllReadyH.nil
  go_simp
  refine hK.out _ _ ((HF3.out).below ((Below.refl _ _).alloc (Nat.le_refl _) _)).pc (fun hHeld => ?_)
  clear hK K
  refine wpAnyH_ready (rs := [4]) (by kernel_rfl) (by simp) ?_
  refine AllReadyH.cons rfl (fun K hK => ?_) AllReadyH.nil
  go_simp
  refine (put_new (Went.refl (HW3.out).1) (Nat.le_trans hB (HW3.out).2.2.size) [Lib.itoa n] (by intro t ht; simp at ht; rw [ht]; have := Lib.itoa_length_le n (by omega) (by omega); omega) (by simp)).mono ?_
  rintro e5 w5 hpost
  cases hR : adv T (some [Lib.itoa n]) with
  | none =>
    rw [hR] at hpost
    obtain ⟨rfl, hch⟩ := hpost
    have HNO := Lib.hid ((HEQ.out).trans (adv_cat_none hR _))
    have HCH := Lib.hid ((HW3.out).fell hch)
    clear hR hch
    unfold boom
    go_wp2
    refine ⟨rfl, ?_⟩
    rw [HNO.out]
    exact ⟨rfl, HCH.out⟩
  | some T5 =>
    rw [hR] at hpost
    obtain ⟨rfl, u5, hwent⟩ := hpost
    have HW5 := Lib.hid ((HW3.out).trans hwent)
    have HF5 := Lib.hid ((HF3.out).went (HW3.out).1 hg1 hg2 hwent)
    have HEQ5 := Lib.hid ((HEQ.out).trans (adv_cat_some hR _))
    clear hwent hR
    have hk6 := (HF5.out).pc
    go_wp2_with fail
    refine hK.out _ _ hk6 (fun hHeld => ?_)
    clear hK K
    refine wpAnyH_done (by kernel_rfl) ?_ _
    have c2 := (HF5.out).ex.c2
    have c3 := (HF5.out).ex.c3
    have c4 := (HF5.out).ex.c4
    have hz0 : (strOf []).toList = [] := strOf_toList []
    obtain ⟨m, hm⟩ : ∃ m, m = (args).length := ⟨_, rfl⟩
    rw [← hm] at c4
    by_cases hs0 : s = []
    case neg =>
      have HNO := Lib.hid ((HEQ5.out).trans (show adv T5 (need _ (some [])) = none from by rw [need_no (fun h => hs0 h.1)]; rfl))
      have hs1 : ¬ (strOf s).toList = [] := by rw [strOf_toList]; exact hs0
      clear hm
      clear hs0
      go_wp2_with fail
      refine (must_no _).mono ?_
      rintro e9 w9 ⟨rfl, rfl⟩
      unfold boom
      go_wp2
      refine ⟨rfl, ?_⟩
      rw [HNO.out]
      exact ⟨rfl, (HW5.out).2.2⟩
    by_cases hl0 : (args).length = 0
    case neg =>
      have HNO := Lib.hid ((HEQ5.out).trans (show adv T5 (need _ (some [])) = none from by rw [need_no (fun h => hl0 h.2)]; rfl))
      subst hs0
      have hl1 : ((m : Int) == 0) = false := by rw [beq_eq_false_iff_ne]; omega
      clear hm
      clear hl0
      go_wp2_with fail
      refine (must_no _).mono ?_
      rintro e9 w9 ⟨rfl, rfl⟩
      unfold boom
      go_wp2
      refine ⟨rfl, ?_⟩
      rw [HNO.out]
      exact ⟨rfl, (HW5.out).2.2⟩
    have HFIN := Lib.hid ((HEQ5.out).trans (show adv T5 (need _ (some [])) = some T5 from by rw [need_yes ⟨hs0, hl0⟩]; exact adv_nil (HW5.out).1.fit))
    subst hs0
    obtain rfl : m = 0 := by omega
    clear hm hl0
    go_wp2_with fail
    refine (must_yes _).mono ?_
    rintro e9 w9 ⟨rfl, rfl⟩
    go_wp2
    go_end0
    rw [HFIN.out]
    exact ⟨rfl, _, HW5.out⟩

set_option maxRecDepth 100000 in
set_option maxHeartbeats 2000000 in
theorem expr_1_no {w0 w : World} {Bc Ba B : Nat} {u : Value} {T : List (List UInt8)} {p n : Int} {s : List UInt8} {r : Value} {args : List Ex} {d ch : Int} (hb : Below B w0 w) (hB : B ≤ w.heap.size) (hp : PenAt w Bc Ba B u T) (hd0 : 0 ≤ d) (hd : d ≤ 24) (hc0 : 0 ≤ ch) (hr : Reads w0 B args r) (hs : s.length ≤ 40000) (hq : ¬ (0 ≤ n ∧ n ≤ 999999999999999999)) :
    Calls Tryd.prog 28 #[penV Bc Ba, .agg #[.int .i64 1, .int .i64 p, .int .i64 n, .string (strOf s), r], .int .i64 d, .int .i64 ch] w (PenPost w Bc Ba B u (adv T (penE (.mk 1 p n s args) d ch))) := by
  have hmf : ∀ (fn : Fn) (first cap : Array Value) (w : World), (Instr.makeFunc fn first cap).run Tryd.prog w = .ok (.func fn first cap) w := fun _ _ _ _ => rfl
  obtain ⟨A, c, hrv, _, _, _⟩ := id hr
  subst hrv
  obtain ⟨X, hX⟩ : ∃ X : World, X = (((w.alloc (.cells #[penV Bc Ba] 63)).alloc (.cells #[.int .i64 1, .int .i64 p, .int .i64 n, .string (strOf s), .slice A args.length c] 24)).alloc (.cells #[.int .i64 d] 3)).alloc (.cells #[.int .i64 ch] 3) := ⟨_, rfl⟩
  obtain ⟨g, hg⟩ : ∃ g, g = w.heap.size := ⟨_, rfl⟩
  obtain ⟨hf, hsz⟩ := fr_new hX hg
  have hw : Went w Bc Ba B u X u T := by rw [hX]; exact ((((Went.refl hp).alloc _).alloc _).alloc _).alloc _
  have e0 := hf.ex.c0
  have hg1 : Bc < g := by rw [hg]; exact lt_of_heap hp.cnt
  have hg2 : Ba < g := by rw [hg]; exact lt_of_heap hp.buf
  have hBg : B ≤ g := by rw [hg]; exact hB
  have hwg : w.heap.size ≤ g := by rw [hg]; exact Nat.le_refl _
  have hd50 : d ≤ 50 := by omega
  have HEQ := Lib.hid (congrArg (adv T) ((penE_1 p n s args d ch hd).trans (need_cat_no hq _)))
  have HX := Lib.hid hX
  have HG := Lib.hid hg
  have HF := Lib.hid hf
  have HW := Lib.hid hw
  have HR := Lib.hid hr
  clear hX hg hf hw hsz hr
  unfold penV at HX ⊢
  go_enter Tryd.func28, Tryd.ntmps28
  go_wp2_with fail
  rw [← HX.out, ← HG.out]
  refine (must_yes _).mono ?_
  rintro e1 w1 ⟨rfl, rfl⟩
  have HNO := HEQ
  have pc1 := (HF.out).pc
  go_wp2_with fail
  refine wp_region_held_drew (S := fun w' => w'.cell? ⟨g, 0, none⟩ = some (.func (.func 47) #[] #[.pointer (some ⟨Bc, 0, none⟩), .pointer (some ⟨Ba, 0, none⟩)])) (by kernel_rfl) pc1 (fun hHeld => ?_)
  have HWd2 := Lib.hid ((HW.out).drew)
  have HFd2 := Lib.hid ((HF.out).drew)
  refine wpAnyH_take (i := 0) (oi := _) (v := .func (.func 47) #[] #[.pointer (some ⟨Bc, 0, none⟩), .pointer (some ⟨Ba, 0, none⟩)]) rfl (by kernel_rfl) (by kernel_rfl) (by kernel_rfl) (fun _ _ _ h => h) (Or.inl ⟨by rfl, fun w hS => ?_⟩) hHeld ?_
  · go_simp
  simp only [Act.put]
  refine wpAnyH_take (i := 1) (oi := _) (v := .pointer (some ⟨g + 1, 2, none⟩)) rfl (by kernel_rfl) (by kernel_rfl) (by kernel_rfl) (fun _ _ _ h => h) (Or.inl ⟨by rfl, fun w hS => ?_⟩) hHeld ?_
  · go_simp
  simp only [Act.put]
  refine wpAnyH_ready (rs := [2]) (by kernel_rfl) (by simp) ?_
  refine AllReadyH.cons rfl (fun K hK => ?_) AllReadyH.nil
  go_simp
  refine (num_no (HFd2.out) hq).mono ?_
  rintro e3 w3 ⟨rfl, hbl⟩
  have HCH := Lib.hid ((HWd2.out).2.2.trans (Chg.of_below (P := fun _ => False) hbl) (fun _ _ e => e.elim))
  unfold boom
  go_wp2
  refine ⟨rfl, ?_⟩
  rw [HNO.out]
  exact ⟨rfl, HCH.out⟩

set_option maxRecDepth 100000 in
set_option maxHeartbeats 2000000 in
theorem expr_2_yes {w0 w : World} {Bc Ba B : Nat} {u : Value} {T : List (List UInt8)} {p n : Int} {s : List UInt8} {r : Value} {args : List Ex} {d ch : Int} (hb : Below B w0 w) (hB : B ≤ w.heap.size) (hp : PenAt w Bc Ba B u T) (hd0 : 0 ≤ d) (hd : d ≤ 24) (hc0 : 0 ≤ ch) (hr : Reads w0 B args r) (hs : s.length ≤ 40000) (hq : n = 0 ∨ n = 1) :
    Calls Tryd.prog 28 #[penV Bc Ba, .agg #[.int .i64 2, .int .i64 p, .int .i64 n, .string (strOf s), r], .int .i64 d, .int .i64 ch] w (PenPost w Bc Ba B u (adv T (penE (.mk 2 p n s args) d ch))) := by
  have hmf : ∀ (fn : Fn) (first cap : Array Value) (w : World), (Instr.makeFunc fn first cap).run Tryd.prog w = .ok (.func fn first cap) w := fun _ _ _ _ => rfl
  obtain ⟨A, c, hrv, _, _, _⟩ := id hr
  subst hrv
  obtain ⟨X, hX⟩ : ∃ X : World, X = (((w.alloc (.cells #[penV Bc Ba] 63)).alloc (.cells #[.int .i64 2, .int .i64 p, .int .i64 n, .string (strOf s), .slice A args.length c] 24)).alloc (.cells #[.int .i64 d] 3)).alloc (.cells #[.int .i64 ch] 3) := ⟨_, rfl⟩
  obtain ⟨g, hg⟩ : ∃ g, g = w.heap.size := ⟨_, rfl⟩
  obtain ⟨hf, hsz⟩ := fr_new hX hg
  have hw : Went w Bc Ba B u X u T := by rw [hX]; exact ((((Went.refl hp).alloc _).alloc _).alloc _).alloc _
  have e0 := hf.ex.c0
  have hg1 : Bc < g := by rw [hg]; exact lt_of_heap hp.cnt
  have hg2 : Ba < g := by rw [hg]; exact lt_of_heap hp.buf
  have hBg : B ≤ g := by rw [hg]; exact hB
  have hwg : w.heap.size ≤ g := by rw [hg]; exact Nat.le_refl _
  have hd50 : d ≤ 50 := by omega
  have HEQ := Lib.hid (congrArg (adv T) ((penE_2 p n s args d ch hd).trans (need_cat_yes hq _)))
  have HX := Lib.hid hX
  have HG := Lib.hid hg
  have HF := Lib.hid hf
  have HW := Lib.hid hw
  have HR := Lib.hid hr
  clear hX hg hf hw hsz hr
  unfold penV at HX ⊢
  go_enter Tryd.func28, Tryd.ntmps28
  go_wp2_with fail
  rw [← HX.out, ← HG.out]
  refine (must_yes _).mono ?_
  rintro e1 w1 ⟨rfl, rfl⟩
  obtain ⟨tx, htx⟩ : ∃ t : List UInt8, t = if n = 1 then [116, 114, 117, 101] else [102, 97, 108, 115, 101] := ⟨_, rfl⟩
  have htl : tx.length ≤ 40000 := by rw [htx]; split <;> decide
  rw [← htx] at HEQ
  have HTX := Lib.hid htx
  have HTL := Lib.hid htl
  clear htx htl
  have pc1 := (HF.out).pc
  go_wp2_with fail
  refine wp_region_held_drew (S := fun w' => w'.cell? ⟨g, 0, none⟩ = some (.func (.func 47) #[] #[.pointer (some ⟨Bc, 0, none⟩), .pointer (some ⟨Ba, 0, none⟩)])) (by kernel_rfl) pc1 (fun hHeld => ?_)
  have HWd2 := Lib.hid ((HW.out).drew)
  have HFd2 := Lib.hid ((HF.out).drew)
  refine wpAnyH_take (i := 0) (oi := _) (v := .func (.func 47) #[] #[.pointer (some ⟨Bc, 0, none⟩), .pointer (some ⟨Ba, 0, none⟩)]) rfl (by kernel_rfl) (by kernel_rfl) (by kernel_rfl) (fun _ _ _ h => h) (Or.inl ⟨by rfl, fun w hS => ?_⟩) hHeld ?_
  · go_simp
  simp only [Act.put]
  refine wpAnyH_take (i := 1) (oi := _) (v := .pointer (some ⟨g + 1, 2, none⟩)) rfl (by kernel_rfl) (by kernel_rfl) (by kernel_rfl) (fun _ _ _ h => h) (Or.inl ⟨by rfl, fun w hS => ?_⟩) hHeld ?_
  · go_simp
  simp only [Act.put]
  refine wpAnyH_ready (rs := [2]) (by kernel_rfl) (by simp) ?_
  refine AllReadyH.cons rfl (fun K hK => ?_) AllReadyH.nil
  go_simp
  refine (bool_yes (HFd2.out) hq tx HTX.out).mono ?_
  rintro e3 w3 ⟨rfl, hch, hfr⟩
  have HW3 := Lib.hid ((HWd2.out).loc (w2 := w3) (hch) (Nat.le_succ_of_le hwg) ((HFd2.out).nm (HWd2.out).1 hg1 hg2 (.inr (.inl rfl))))
  have HF3 : Hid (ExFr w3 g Bc Ba 2 p 0 s _ d ch) := Lib.hid (hfr)
  clear hch hfr
  have hk4 := (HF3.out).pc
  go_wp2_with fail
  refine hK.out _ _ hk4 (fun hHeld => ?_)
  clear hK K
  refine wpAnyH_ready (rs := [3]) (by kernel_rfl) (by simp) ?_
  refine AllReadyH.cons rfl (fun K hK => ?_) AllReadyH.nil
  go_simp
  refine hK.out _ _ ((HF3.out).below ((Below.refl _ _).alloc (Nat.le_refl _) _)).pc (fun hHeld => ?_)
  clear hK K
  refine wpAnyH_ready (rs := [4]) (by kernel_rfl) (by simp) ?_
  refine AllReadyH.cons rfl (fun K hK => ?_) AllReadyH.nil
  go_simp
  refine (put_new (Went.refl (HW3.out).1) (Nat.le_trans hB (HW3.out).2.2.size) [tx] (by intro t ht; simp at ht; rw [ht]; exact HTL.out) (by simp)).mono ?_
  rintro e5 w5 hpost
  cases hR : adv T (some [tx]) with
  | none =>
    rw [hR] at hpost
    obtain ⟨rfl, hch⟩ := hpost
    have HNO := Lib.hid ((HEQ.out).trans (adv_cat_none hR _))
    have HCH := Lib.hid ((HW3.out).fell hch)
    clear hR hch
    unfold boom
    go_wp2
    refine ⟨rfl, ?_⟩
    rw [HNO.out]
    exact ⟨rfl, HCH.out⟩
  | some T5 =>
    rw [hR] at hpost
    obtain ⟨rfl, u5, hwent⟩ := hpost
    have HW5 := Lib.hid ((HW3.out).trans hwent)
    have HF5 := Lib.hid ((HF3.out).went (HW3.out).1 hg1 hg2 hwent)
    have HEQ5 := Lib.hid ((HEQ.out).trans (adv_cat_some hR _))
    clear hwent hR
    have hk6 := (HF5.out).pc
    go_wp2_with fail
    refine hK.out _ _ hk6 (fun hHeld => ?_)
    clear hK K
    refine wpAnyH_done (by kernel_rfl) ?_ _
    have c2 := (HF5.out).ex.c2
    have c3 := (HF5.out).ex.c3
    have c4 := (HF5.out).ex.c4
    have hz0 : (strOf []).toList = [] := strOf_toList []
    obtain ⟨m, hm⟩ : ∃ m, m = (args).length := ⟨_, rfl⟩
    rw [← hm] at c4
    by_cases hs0 : s = []
    case neg =>
      have HNO := Lib.hid ((HEQ5.out).trans (show adv T5 (need _ (some [])) = none from by rw [need_no (fun h => hs0 h.1)]; rfl))
      have hs1 : ¬ (strOf s).toList = [] := by rw [strOf_toList]; exact hs0
      clear hm
      clear hs0
      go_wp2_with fail
      refine (must_no _).mono ?_
      rintro e9 w9 ⟨rfl, rfl⟩
      unfold boom
      go_wp2
      refine ⟨rfl, ?_⟩
      rw [HNO.out]
      exact ⟨rfl, (HW5.out).2.2⟩
    by_cases hl0 : (args).length = 0
    case neg =>
      have HNO := Lib.hid ((HEQ5.out).trans (show adv T5 (need _ (some [])) = none from by rw [need_no (fun h => hl0 h.2)]; rfl))
      subst hs0
      have hl1 : ((m : Int) == 0) = false := by rw [beq_eq_false_iff_ne]; omega
      clear hm
      clear hl0
      go_wp2_with fail
      refine (must_no _).mono ?_
      rintro e9 w9 ⟨rfl, rfl⟩
      unfold boom
      go_wp2
      refine ⟨rfl, ?_⟩
      rw [HNO.out]
      exact ⟨rfl, (HW5.out).2.2⟩
    have HFIN := Lib.hid ((HEQ5.out).trans (show adv T5 (need _ (some [])) = some T5 from by rw [need_yes ⟨hs0, hl0⟩]; exact adv_nil (HW5.out).1.fit))
    subst hs0
    obtain rfl : m = 0 := by omega
    clear hm hl0
    go_wp2_with fail
    refine (must_yes _).mono ?_
    rintro e9 w9 ⟨rfl, rfl⟩
    go_wp2
    go_end0
    rw [HFIN.out]
    exact ⟨rfl, _, HW5.out⟩

set_option maxRecDepth 100000 in
set_option maxHeartbeats 2000000 in
theorem expr_2_no {w0 w : World} {Bc Ba B : Nat} {u : Value} {T : List (List UInt8)} {p n : Int} {s : List UInt8} {r : Value} {args : List Ex} {d ch : Int} (hb : Below B w0 w) (hB : B ≤ w.heap.size) (hp : PenAt w Bc Ba B u T) (hd0 : 0 ≤ d) (hd : d ≤ 24) (hc0 : 0 ≤ ch) (hr : Reads w0 B args r) (hs : s.length ≤ 40000) (hq : ¬ (n = 0 ∨ n = 1)) :
    Calls Tryd.prog 28 #[penV Bc Ba, .agg #[.int .i64 2, .int .i64 p, .int .i64 n, .string (strOf s), r], .int .i64 d, .int .i64 ch] w (PenPost w Bc Ba B u (adv T (penE (.mk 2 p n s args) d ch))) := by
  have hmf : ∀ (fn : Fn) (first cap : Array Value) (w : World), (Instr.makeFunc fn first cap).run Tryd.prog w = .ok (.func fn first cap) w := fun _ _ _ _ => rfl
  obtain ⟨A, c, hrv, _, _, _⟩ := id hr
  subst hrv
  obtain ⟨X, hX⟩ : ∃ X : World, X = (((w.alloc (.cells #[penV Bc Ba] 63)).alloc (.cells #[.int .i64 2, .int .i64 p, .int .i64 n, .string (strOf s), .slice A args.length c] 24)).alloc (.cells #[.int .i64 d] 3)).alloc (.cells #[.int .i64 ch] 3) := ⟨_, rfl⟩
  obtain ⟨g, hg⟩ : ∃ g, g = w.heap.size := ⟨_, rfl⟩
  obtain ⟨hf, hsz⟩ := fr_new hX hg
  have hw : Went w Bc Ba B u X u T := by rw [hX]; exact ((((Went.refl hp).alloc _).alloc _).alloc _).alloc _
  have e0 := hf.ex.c0
  have hg1 : Bc < g := by rw [hg]; exact lt_of_heap hp.cnt
  have hg2 : Ba < g := by rw [hg]; exact lt_of_heap hp.buf
  have hBg : B ≤ g := by rw [hg]; exact hB
  have hwg : w.heap.size ≤ g := by rw [hg]; exact Nat.le_refl _
  have hd50 : d ≤ 50 := by omega
  have HEQ := Lib.hid (congrArg (adv T) ((penE_2 p n s args d ch hd).trans (need_cat_no hq _)))
  have HX := Lib.hid hX
  have HG := Lib.hid hg
  have HF := Lib.hid hf
  have HW := Lib.hid hw
  have HR := Lib.hid hr
  clear hX hg hf hw hsz hr
  unfold penV at HX ⊢
  go_enter Tryd.func28, Tryd.ntmps28
  go_wp2_with fail
  rw [← HX.out, ← HG.out]
  refine (must_yes _).mono ?_
  rintro e1 w1 ⟨rfl, rfl⟩
  have HNO := HEQ
  have pc1 := (HF.out).pc
  go_wp2_with fail
  refine wp_region_held_drew (S := fun w' => w'.cell? ⟨g, 0, none⟩ = some (.func (.func 47) #[] #[.pointer (some ⟨Bc, 0, none⟩), .pointer (some ⟨Ba, 0, none⟩)])) (by kernel_rfl) pc1 (fun hHeld => ?_)
  have HWd2 := Lib.hid ((HW.out).drew)
  have HFd2 := Lib.hid ((HF.out).drew)
  refine wpAnyH_take (i := 0) (oi := _) (v := .func (.func 47) #[] #[.pointer (some ⟨Bc, 0, none⟩), .pointer (some ⟨Ba, 0, none⟩)]) rfl (by kernel_rfl) (by kernel_rfl) (by kernel_rfl) (fun _ _ _ h => h) (Or.inl ⟨by rfl, fun w hS => ?_⟩) hHeld ?_
  · go_simp
  simp only [Act.put]
  refine wpAnyH_take (i := 1) (oi := _) (v := .pointer (some ⟨g + 1, 2, none⟩)) rfl (by kernel_rfl) (by kernel_rfl) (by kernel_rfl) (fun _ _ _ h => h) (Or.inl ⟨by rfl, fun w hS => ?_⟩) hHeld ?_
  · go_simp
  simp only [Act.put]
  refine wpAnyH_ready (rs := [2]) (by kernel_rfl) (by simp) ?_
  refine AllReadyH.cons rfl (fun K hK => ?_) AllReadyH.nil
  go_simp
  refine (bool_no (HFd2.out) hq).mono ?_
  rintro e3 w3 ⟨rfl, hbl⟩
  have HCH := Lib.hid ((HWd2.out).2.2.trans (Chg.of_below (P := fun _ => False) hbl) (fun _ _ e => e.elim))
  unfold boom
  go_wp2
  refine ⟨rfl, ?_⟩
  rw [HNO.out]
  exact ⟨rfl, HCH.out⟩

end Go.Proofs.YtmbkjabjcphkbaaDoor
end
section
/- The walks of an expression, kind by kind. -/
set_option linter.unusedVariables false
namespace Go.Proofs.YtmbkjabjcphkbaaDoor
open Go.RowKit

set_option maxRecDepth 100000 in
set_option maxHeartbeats 2000000 in
theorem expr_11_yes {w0 w : World} {Bc Ba B : Nat} {u : Value} {T : List (List UInt8)} {p n : Int} {s : List UInt8} {r : Value} {args : List Ex} {d ch : Int} (hb : Below B w0 w) (hB : B ≤ w.heap.size) (hp : PenAt w Bc Ba B u T) (hd0 : 0 ≤ d) (hd : d ≤ 24) (hc0 : 0 ≤ ch) (hr : Reads w0 B args r) (hs : s.length ≤ 40000) (hq : nameB s = true) :
    Calls Tryd.prog 28 #[penV Bc Ba, .agg #[.int .i64 11, .int .i64 p, .int .i64 n, .string (strOf s), r], .int .i64 d, .int .i64 ch] w (PenPost w Bc Ba B u (adv T (penE (.mk 11 p n s args) d ch))) := by
  have hmf : ∀ (fn : Fn) (first cap : Array Value) (w : World), (Instr.makeFunc fn first cap).run Tryd.prog w = .ok (.func fn first cap) w := fun _ _ _ _ => rfl
  obtain ⟨A, c, hrv, _, _, _⟩ := id hr
  subst hrv
  obtain ⟨X, hX⟩ : ∃ X : World, X = (((w.alloc (.cells #[penV Bc Ba] 63)).alloc (.cells #[.int .i64 11, .int .i64 p, .int .i64 n, .string (strOf s), .slice A args.length c] 24)).alloc (.cells #[.int .i64 d] 3)).alloc (.cells #[.int .i64 ch] 3) := ⟨_, rfl⟩
  obtain ⟨g, hg⟩ : ∃ g, g = w.heap.size := ⟨_, rfl⟩
  obtain ⟨hf, hsz⟩ := fr_new hX hg
  have hw : Went w Bc Ba B u X u T := by rw [hX]; exact ((((Went.refl hp).alloc _).alloc _).alloc _).alloc _
  have e0 := hf.ex.c0
  have hg1 : Bc < g := by rw [hg]; exact lt_of_heap hp.cnt
  have hg2 : Ba < g := by rw [hg]; exact lt_of_heap hp.buf
  have hBg : B ≤ g := by rw [hg]; exact hB
  have hwg : w.heap.size ≤ g := by rw [hg]; exact Nat.le_refl _
  have hd50 : d ≤ 50 := by omega
  have HEQ := Lib.hid (congrArg (adv T) ((penE_11 p n s args d ch hd).trans (need_cat_yes hq _)))
  have HX := Lib.hid hX
  have HG := Lib.hid hg
  have HF := Lib.hid hf
  have HW := Lib.hid hw
  have HR := Lib.hid hr
  clear hX hg hf hw hsz hr
  unfold penV at HX ⊢
  go_enter Tryd.func28, Tryd.ntmps28
  go_wp2_with fail
  rw [← HX.out, ← HG.out]
  refine (must_yes _).mono ?_
  rintro e1 w1 ⟨rfl, rfl⟩
  have pc1 := (HF.out).pc
  go_wp2_with fail
  refine wp_region_held_drew (S := fun w' => w'.cell? ⟨g, 0, none⟩ = some (.func (.func 47) #[] #[.pointer (some ⟨Bc, 0, none⟩), .pointer (some ⟨Ba, 0, none⟩)])) (by kernel_rfl) pc1 (fun hHeld => ?_)
  have HWd2 := Lib.hid ((HW.out).drew)
  have HFd2 := Lib.hid ((HF.out).drew)
  refine wpAnyH_take (i := 0) (oi := _) (v := .func (.func 47) #[] #[.pointer (some ⟨Bc, 0, none⟩), .pointer (some ⟨Ba, 0, none⟩)]) rfl (by kernel_rfl) (by kernel_rfl) (by kernel_rfl) (fun _ _ _ h => h) (Or.inl ⟨by rfl, fun w hS => ?_⟩) hHeld ?_
  · go_simp
  simp only [Act.put]
  refine wpAnyH_take (i := 1) (oi := _) (v := .func (.func 49) #[] #[.pointer (some ⟨g + 1, 0, none⟩)]) rfl (by kernel_rfl) (by kernel_rfl) (by kernel_rfl) (fun _ _ _ h => h) (Or.inl ⟨by rfl, fun w hS => ?_⟩) hHeld ?_
  · go_simp
  simp only [Act.put]
  refine wpAnyH_ready (rs := [2]) (by kernel_rfl) (by simp) ?_
  refine AllReadyH.cons rfl (fun K hK => ?_) AllReadyH.nil
  go_simp
  refine (name_yes (HFd2.out) hs hq).mono ?_
  rintro e3 w3 ⟨rfl, hch, hfr⟩
  have HW3 := Lib.hid ((HWd2.out).loc (w2 := w3) (hch) (Nat.le_succ_of_le hwg) ((HFd2.out).nm (HWd2.out).1 hg1 hg2 (.inr (.inl rfl))))
  have HF3 : Hid (ExFr w3 g Bc Ba 11 p n [] _ d ch) := Lib.hid (hfr)
  clear hch hfr
  have hk4 := (HF3.out).pc
  go_wp2_with fail
  refine hK.out _ _ hk4 (fun hHeld => ?_)
  clear hK K
  refine wpAnyH_ready (rs := [3]) (by kernel_rfl) (by simp) ?_
  refine AllReadyH.cons rfl (fun K hK => ?_) AllReadyH.nil
  go_simp
  refine hK.out _ _ ((HF3.out).below ((Below.refl _ _).alloc (Nat.le_refl _) _)).pc (fun hHeld => ?_)
  clear hK K
  refine wpAnyH_ready (rs := [4]) (by kernel_rfl) (by simp) ?_
  refine AllReadyH.cons rfl (fun K hK => ?_) AllReadyH.nil
  go_simp
  refine (put_new (Went.refl (HW3.out).1) (Nat.le_trans hB (HW3.out).2.2.size) [[110, 101, 119], s] (by intro t ht; simp at ht; have := hs; first | (rcases ht with rfl | rfl | rfl <;> first | decide | exact hs | simp) | (rw [ht]; first | decide | exact hs) | (rw [ht]; simp)) (by simp)).mono ?_
  rintro e5 w5 hpost
  cases hR : adv T (some [[110, 101, 119], s]) with
  | none =>
    rw [hR] at hpost
    obtain ⟨rfl, hch⟩ := hpost
    have HNO := Lib.hid ((HEQ.out).trans (adv_cat_none hR _))
    have HCH := Lib.hid ((HW3.out).fell hch)
    clear hR hch
    unfold boom
    go_wp2
    refine ⟨rfl, ?_⟩
    rw [HNO.out]
    exact ⟨rfl, HCH.out⟩
  | some T5 =>
    rw [hR] at hpost
    obtain ⟨rfl, u5, hwent⟩ := hpost
    have HW5 := Lib.hid ((HW3.out).trans hwent)
    have HF5 := Lib.hid ((HF3.out).went (HW3.out).1 hg1 hg2 hwent)
    have HEQ5 := Lib.hid ((HEQ.out).trans (adv_cat_some hR _))
    clear hwent hR
    have hk6 := (HF5.out).pc
    go_wp2_with fail
    refine hK.out _ _ hk6 (fun hHeld => ?_)
    clear hK K
    refine wpAnyH_done (by kernel_rfl) ?_ _
    have c2 := (HF5.out).ex.c2
    have c3 := (HF5.out).ex.c3
    have c4 := (HF5.out).ex.c4
    have hz0 : (strOf []).toList = [] := strOf_toList []
    obtain ⟨m, hm⟩ : ∃ m, m = (args).length := ⟨_, rfl⟩
    rw [← hm] at c4
    by_cases hn : n = 0
    case neg =>
      have HNO := Lib.hid ((HEQ5.out).trans (show adv T5 (need _ (some [])) = none from by rw [need_no (fun h => hn h.1)]; rfl))
      clear hm
      go_wp2_with fail
      refine (must_no _).mono ?_
      rintro e9 w9 ⟨rfl, rfl⟩
      unfold boom
      go_wp2
      refine ⟨rfl, ?_⟩
      rw [HNO.out]
      exact ⟨rfl, (HW5.out).2.2⟩
    by_cases hl0 : (args).length = 0
    case neg =>
      have HNO := Lib.hid ((HEQ5.out).trans (show adv T5 (need _ (some [])) = none from by rw [need_no (fun h => hl0 h.2)]; rfl))
      subst hn
      have hl1 : ((m : Int) == 0) = false := by rw [beq_eq_false_iff_ne]; omega
      clear hm
      clear hl0
      go_wp2_with fail
      refine (must_no _).mono ?_
      rintro e9 w9 ⟨rfl, rfl⟩
      unfold boom
      go_wp2
      refine ⟨rfl, ?_⟩
      rw [HNO.out]
      exact ⟨rfl, (HW5.out).2.2⟩
    have HFIN := Lib.hid ((HEQ5.out).trans (show adv T5 (need _ (some [])) = some T5 from by rw [need_yes ⟨hn, hl0⟩]; exact adv_nil (HW5.out).1.fit))
    subst hn
    obtain rfl : m = 0 := by omega
    clear hm hl0
    go_wp2_with fail
    refine (must_yes _).mono ?_
    rintro e9 w9 ⟨rfl, rfl⟩
    go_wp2
    go_end0
    rw [HFIN.out]
    exact ⟨rfl, _, HW5.out⟩

set_option maxRecDepth 100000 in
set_option maxHeartbeats 2000000 in
theorem expr_11_no {w0 w : World} {Bc Ba B : Nat} {u : Value} {T : List (List UInt8)} {p n : Int} {s : List UInt8} {r : Value} {args : List Ex} {d ch : Int} (hb : Below B w0 w) (hB : B ≤ w.heap.size) (hp : PenAt w Bc Ba B u T) (hd0 : 0 ≤ d) (hd : d ≤ 24) (hc0 : 0 ≤ ch) (hr : Reads w0 B args r) (hs : s.length ≤ 40000) (hq : ¬ (nameB s = true)) :
    Calls Tryd.prog 28 #[penV Bc Ba, .agg #[.int .i64 11, .int .i64 p, .int .i64 n, .string (strOf s), r], .int .i64 d, .int .i64 ch] w (PenPost w Bc Ba B u (adv T (penE (.mk 11 p n s args) d ch))) := by
  have hmf : ∀ (fn : Fn) (first cap : Array Value) (w : World), (Instr.makeFunc fn first cap).run Tryd.prog w = .ok (.func fn first cap) w := fun _ _ _ _ => rfl
  obtain ⟨A, c, hrv, _, _, _⟩ := id hr
  subst hrv
  obtain ⟨X, hX⟩ : ∃ X : World, X = (((w.alloc (.cells #[penV Bc Ba] 63)).alloc (.cells #[.int .i64 11, .int .i64 p, .int .i64 n, .string (strOf s), .slice A args.length c] 24)).alloc (.cells #[.int .i64 d] 3)).alloc (.cells #[.int .i64 ch] 3) := ⟨_, rfl⟩
  obtain ⟨g, hg⟩ : ∃ g, g = w.heap.size := ⟨_, rfl⟩
  obtain ⟨hf, hsz⟩ := fr_new hX hg
  have hw : Went w Bc Ba B u X u T := by rw [hX]; exact ((((Went.refl hp).alloc _).alloc _).alloc _).alloc _
  have e0 := hf.ex.c0
  have hg1 : Bc < g := by rw [hg]; exact lt_of_heap hp.cnt
  have hg2 : Ba < g := by rw [hg]; exact lt_of_heap hp.buf
  have hBg : B ≤ g := by rw [hg]; exact hB
  have hwg : w.heap.size ≤ g := by rw [hg]; exact Nat.le_refl _
  have hd50 : d ≤ 50 := by omega
  have HEQ := Lib.hid (congrArg (adv T) ((penE_11 p n s args d ch hd).trans (need_cat_no hq _)))
  have HX := Lib.hid hX
  have HG := Lib.hid hg
  have HF := Lib.hid hf
  have HW := Lib.hid hw
  have HR := Lib.hid hr
  clear hX hg hf hw hsz hr
  unfold penV at HX ⊢
  go_enter Tryd.func28, Tryd.ntmps28
  go_wp2_with fail
  rw [← HX.out, ← HG.out]
  refine (must_yes _).mono ?_
  rintro e1 w1 ⟨rfl, rfl⟩
  have HNO := HEQ
  have pc1 := (HF.out).pc
  go_wp2_with fail
  refine wp_region_held_drew (S := fun w' => w'.cell? ⟨g, 0, none⟩ = some (.func (.func 47) #[] #[.pointer (some ⟨Bc, 0, none⟩), .pointer (some ⟨Ba, 0, none⟩)])) (by kernel_rfl) pc1 (fun hHeld => ?_)
  have HWd2 := Lib.hid ((HW.out).drew)
  have HFd2 := Lib.hid ((HF.out).drew)
  refine wpAnyH_take (i := 0) (oi := _) (v := .func (.func 47) #[] #[.pointer (some ⟨Bc, 0, none⟩), .pointer (some ⟨Ba, 0, none⟩)]) rfl (by kernel_rfl) (by kernel_rfl) (by kernel_rfl) (fun _ _ _ h => h) (Or.inl ⟨by rfl, fun w hS => ?_⟩) hHeld ?_
  · go_simp
  simp only [Act.put]
  refine wpAnyH_take (i := 1) (oi := _) (v := .func (.func 49) #[] #[.pointer (some ⟨g + 1, 0, none⟩)]) rfl (by kernel_rfl) (by kernel_rfl) (by kernel_rfl) (fun _ _ _ h => h) (Or.inl ⟨by rfl, fun w hS => ?_⟩) hHeld ?_
  · go_simp
  simp only [Act.put]
  refine wpAnyH_ready (rs := [2]) (by kernel_rfl) (by simp) ?_
  refine AllReadyH.cons rfl (fun K hK => ?_) AllReadyH.nil
  go_simp
  refine (name_no (HFd2.out) hs (by simpa using hq)).mono ?_
  rintro e3 w3 ⟨rfl, hbl⟩
  have HCH := Lib.hid ((HWd2.out).2.2.trans (Chg.of_below (P := fun _ => False) hbl) (fun _ _ e => e.elim))
  unfold boom
  go_wp2
  refine ⟨rfl, ?_⟩
  rw [HNO.out]
  exact ⟨rfl, HCH.out⟩

set_option maxRecDepth 100000 in
set_option maxHeartbeats 2000000 in
theorem expr_13_yes {w0 w : World} {Bc Ba B : Nat} {u : Value} {T : List (List UInt8)} {p n : Int} {s : List UInt8} {r : Value} {args : List Ex} {d ch : Int} (hb : Below B w0 w) (hB : B ≤ w.heap.size) (hp : PenAt w Bc Ba B u T) (hd0 : 0 ≤ d) (hd : d ≤ 24) (hc0 : 0 ≤ ch) (hr : Reads w0 B args r) (hs : s.length ≤ 40000) (hq : nameB s = true) :
    Calls Tryd.prog 28 #[penV Bc Ba, .agg #[.int .i64 13, .int .i64 p, .int .i64 n, .string (strOf s), r], .int .i64 d, .int .i64 ch] w (PenPost w Bc Ba B u (adv T (penE (.mk 13 p n s args) d ch))) := by
  have hmf : ∀ (fn : Fn) (first cap : Array Value) (w : World), (Instr.makeFunc fn first cap).run Tryd.prog w = .ok (.func fn first cap) w := fun _ _ _ _ => rfl
  obtain ⟨A, c, hrv, _, _, _⟩ := id hr
  subst hrv
  obtain ⟨X, hX⟩ : ∃ X : World, X = (((w.alloc (.cells #[penV Bc Ba] 63)).alloc (.cells #[.int .i64 13, .int .i64 p, .int .i64 n, .string (strOf s), .slice A args.length c] 24)).alloc (.cells #[.int .i64 d] 3)).alloc (.cells #[.int .i64 ch] 3) := ⟨_, rfl⟩
  obtain ⟨g, hg⟩ : ∃ g, g = w.heap.size := ⟨_, rfl⟩
  obtain ⟨hf, hsz⟩ := fr_new hX hg
  have hw : Went w Bc Ba B u X u T := by rw [hX]; exact ((((Went.refl hp).alloc _).alloc _).alloc _).alloc _
  have e0 := hf.ex.c0
  have hg1 : Bc < g := by rw [hg]; exact lt_of_heap hp.cnt
  have hg2 : Ba < g := by rw [hg]; exact lt_of_heap hp.buf
  have hBg : B ≤ g := by rw [hg]; exact hB
  have hwg : w.heap.size ≤ g := by rw [hg]; exact Nat.le_refl _
  have hd50 : d ≤ 50 := by omega
  have HEQ := Lib.hid (congrArg (adv T) ((penE_13 p n s args d ch hd).trans (need_cat_yes hq _)))
  have HX := Lib.hid hX
  have HG := Lib.hid hg
  have HF := Lib.hid hf
  have HW := Lib.hid hw
  have HR := Lib.hid hr
  clear hX hg hf hw hsz hr
  unfold penV at HX ⊢
  go_enter Tryd.func28, Tryd.ntmps28
  go_wp2_with fail
  rw [← HX.out, ← HG.out]
  refine (must_yes _).mono ?_
  rintro e1 w1 ⟨rfl, rfl⟩
  have pc1 := (HF.out).pc
  go_wp2_with fail
  refine wp_region_held_drew (S := fun w' => w'.cell? ⟨g, 0, none⟩ = some (.func (.func 47) #[] #[.pointer (some ⟨Bc, 0, none⟩), .pointer (some ⟨Ba, 0, none⟩)])) (by kernel_rfl) pc1 (fun hHeld => ?_)
  have HWd2 := Lib.hid ((HW.out).drew)
  have HFd2 := Lib.hid ((HF.out).drew)
  refine wpAnyH_take (i := 0) (oi := _) (v := .func (.func 47) #[] #[.pointer (some ⟨Bc, 0, none⟩), .pointer (some ⟨Ba, 0, none⟩)]) rfl (by kernel_rfl) (by kernel_rfl) (by kernel_rfl) (fun _ _ _ h => h) (Or.inl ⟨by rfl, fun w hS => ?_⟩) hHeld ?_
  · go_simp
  simp only [Act.put]
  refine wpAnyH_take (i := 1) (oi := _) (v := .func (.func 49) #[] #[.pointer (some ⟨g + 1, 0, none⟩)]) rfl (by kernel_rfl) (by kernel_rfl) (by kernel_rfl) (fun _ _ _ h => h) (Or.inl ⟨by rfl, fun w hS => ?_⟩) hHeld ?_
  · go_simp
  simp only [Act.put]
  refine wpAnyH_ready (rs := [2]) (by kernel_rfl) (by simp) ?_
  refine AllReadyH.cons rfl (fun K hK => ?_) AllReadyH.nil
  go_simp
  refine (name_yes (HFd2.out) hs hq).mono ?_
  rintro e3 w3 ⟨rfl, hch, hfr⟩
  have HW3 := Lib.hid ((HWd2.out).loc (w2 := w3) (hch) (Nat.le_succ_of_le hwg) ((HFd2.out).nm (HWd2.out).1 hg1 hg2 (.inr (.inl rfl))))
  have HF3 : Hid (ExFr w3 g Bc Ba 13 p n [] _ d ch) := Lib.hid (hfr)
  clear hch hfr
  have hk4 := (HF3.out).pc
  go_wp2_with fail
  refine hK.out _ _ hk4 (fun hHeld => ?_)
  clear hK K
  refine wpAnyH_ready (rs := [3]) (by kernel_rfl) (by simp) ?_
  refine AllReadyH.cons rfl (fun K hK => ?_) AllReadyH.nil
  go_simp
  refine hK.out _ _ ((HF3.out).below ((Below.refl _ _).alloc (Nat.le_refl _) _)).pc (fun hHeld => ?_)
  clear hK K
  refine wpAnyH_ready (rs := [4]) (by kernel_rfl) (by simp) ?_
  refine AllReadyH.cons rfl (fun K hK => ?_) AllReadyH.nil
  go_simp
  refine (put_new (Went.refl (HW3.out).1) (Nat.le_trans hB (HW3.out).2.2.size) [[114, 101, 108, 101, 97, 115, 101], s] (by intro t ht; simp at ht; have := hs; first | (rcases ht with rfl | rfl | rfl <;> first | decide | exact hs | simp) | (rw [ht]; first | decide | exact hs) | (rw [ht]; simp)) (by simp)).mono ?_
  rintro e5 w5 hpost
  cases hR : adv T (some [[114, 101, 108, 101, 97, 115, 101], s]) with
  | none =>
    rw [hR] at hpost
    obtain ⟨rfl, hch⟩ := hpost
    have HNO := Lib.hid ((HEQ.out).trans (adv_cat_none hR _))
    have HCH := Lib.hid ((HW3.out).fell hch)
    clear hR hch
    unfold boom
    go_wp2
    refine ⟨rfl, ?_⟩
    rw [HNO.out]
    exact ⟨rfl, HCH.out⟩
  | some T5 =>
    rw [hR] at hpost
    obtain ⟨rfl, u5, hwent⟩ := hpost
    have HW5 := Lib.hid ((HW3.out).trans hwent)
    have HF5 := Lib.hid ((HF3.out).went (HW3.out).1 hg1 hg2 hwent)
    have HEQ5 := Lib.hid ((HEQ.out).trans (adv_cat_some hR _))
    clear hwent hR
    have hk6 := (HF5.out).pc
    go_wp2_with fail
    refine hK.out _ _ hk6 (fun hHeld => ?_)
    clear hK K
    refine wpAnyH_done (by kernel_rfl) ?_ _
    have c2 := (HF5.out).ex.c2
    have c3 := (HF5.out).ex.c3
    have c4 := (HF5.out).ex.c4
    have hz0 : (strOf []).toList = [] := strOf_toList []
    obtain ⟨m, hm⟩ : ∃ m, m = (args).length := ⟨_, rfl⟩
    rw [← hm] at c4
    by_cases hn : n = 0
    case neg =>
      have HNO := Lib.hid ((HEQ5.out).trans (show adv T5 (need _ (some [])) = none from by rw [need_no (fun h => hn h.1)]; rfl))
      clear hm
      go_wp2_with fail
      refine (must_no _).mono ?_
      rintro e9 w9 ⟨rfl, rfl⟩
      unfold boom
      go_wp2
      refine ⟨rfl, ?_⟩
      rw [HNO.out]
      exact ⟨rfl, (HW5.out).2.2⟩
    by_cases hl0 : (args).length = 0
    case neg =>
      have HNO := Lib.hid ((HEQ5.out).trans (show adv T5 (need _ (some [])) = none from by rw [need_no (fun h => hl0 h.2)]; rfl))
      subst hn
      have hl1 : ((m : Int) == 0) = false := by rw [beq_eq_false_iff_ne]; omega
      clear hm
      clear hl0
      go_wp2_with fail
      refine (must_no _).mono ?_
      rintro e9 w9 ⟨rfl, rfl⟩
      unfold boom
      go_wp2
      refine ⟨rfl, ?_⟩
      rw [HNO.out]
      exact ⟨rfl, (HW5.out).2.2⟩
    have HFIN := Lib.hid ((HEQ5.out).trans (show adv T5 (need _ (some [])) = some T5 from by rw [need_yes ⟨hn, hl0⟩]; exact adv_nil (HW5.out).1.fit))
    subst hn
    obtain rfl : m = 0 := by omega
    clear hm hl0
    go_wp2_with fail
    refine (must_yes _).mono ?_
    rintro e9 w9 ⟨rfl, rfl⟩
    go_wp2
    go_end0
    rw [HFIN.out]
    exact ⟨rfl, _, HW5.out⟩

set_option maxRecDepth 100000 in
set_option maxHeartbeats 2000000 in
theorem expr_13_no {w0 w : World} {Bc Ba B : Nat} {u : Value} {T : List (List UInt8)} {p n : Int} {s : List UInt8} {r : Value} {args : List Ex} {d ch : Int} (hb : Below B w0 w) (hB : B ≤ w.heap.size) (hp : PenAt w Bc Ba B u T) (hd0 : 0 ≤ d) (hd : d ≤ 24) (hc0 : 0 ≤ ch) (hr : Reads w0 B args r) (hs : s.length ≤ 40000) (hq : ¬ (nameB s = true)) :
    Calls Tryd.prog 28 #[penV Bc Ba, .agg #[.int .i64 13, .int .i64 p, .int .i64 n, .string (strOf s), r], .int .i64 d, .int .i64 ch] w (PenPost w Bc Ba B u (adv T (penE (.mk 13 p n s args) d ch))) := by
  have hmf : ∀ (fn : Fn) (first cap : Array Value) (w : World), (Instr.makeFunc fn first cap).run Tryd.prog w = .ok (.func fn first cap) w := fun _ _ _ _ => rfl
  obtain ⟨A, c, hrv, _, _, _⟩ := id hr
  subst hrv
  obtain ⟨X, hX⟩ : ∃ X : World, X = (((w.alloc (.cells #[penV Bc Ba] 63)).alloc (.cells #[.int .i64 13, .int .i64 p, .int .i64 n, .string (strOf s), .slice A args.length c] 24)).alloc (.cells #[.int .i64 d] 3)).alloc (.cells #[.int .i64 ch] 3) := ⟨_, rfl⟩
  obtain ⟨g, hg⟩ : ∃ g, g = w.heap.size := ⟨_, rfl⟩
  obtain ⟨hf, hsz⟩ := fr_new hX hg
  have hw : Went w Bc Ba B u X u T := by rw [hX]; exact ((((Went.refl hp).alloc _).alloc _).alloc _).alloc _
  have e0 := hf.ex.c0
  have hg1 : Bc < g := by rw [hg]; exact lt_of_heap hp.cnt
  have hg2 : Ba < g := by rw [hg]; exact lt_of_heap hp.buf
  have hBg : B ≤ g := by rw [hg]; exact hB
  have hwg : w.heap.size ≤ g := by rw [hg]; exact Nat.le_refl _
  have hd50 : d ≤ 50 := by omega
  have HEQ := Lib.hid (congrArg (adv T) ((penE_13 p n s args d ch hd).trans (need_cat_no hq _)))
  have HX := Lib.hid hX
  have HG := Lib.hid hg
  have HF := Lib.hid hf
  have HW := Lib.hid hw
  have HR := Lib.hid hr
  clear hX hg hf hw hsz hr
  unfold penV at HX ⊢
  go_enter Tryd.func28, Tryd.ntmps28
  go_wp2_with fail
  rw [← HX.out, ← HG.out]
  refine (must_yes _).mono ?_
  rintro e1 w1 ⟨rfl, rfl⟩
  have HNO := HEQ
  have pc1 := (HF.out).pc
  go_wp2_with fail
  refine wp_region_held_drew (S := fun w' => w'.cell? ⟨g, 0, none⟩ = some (.func (.func 47) #[] #[.pointer (some ⟨Bc, 0, none⟩), .pointer (some ⟨Ba, 0, none⟩)])) (by kernel_rfl) pc1 (fun hHeld => ?_)
  have HWd2 := Lib.hid ((HW.out).drew)
  have HFd2 := Lib.hid ((HF.out).drew)
  refine wpAnyH_take (i := 0) (oi := _) (v := .func (.func 47) #[] #[.pointer (some ⟨Bc, 0, none⟩), .pointer (some ⟨Ba, 0, none⟩)]) rfl (by kernel_rfl) (by kernel_rfl) (by kernel_rfl) (fun _ _ _ h => h) (Or.inl ⟨by rfl, fun w hS => ?_⟩) hHeld ?_
  · go_simp
  simp only [Act.put]
  refine wpAnyH_take (i := 1) (oi := _) (v := .func (.func 49) #[] #[.pointer (some ⟨g + 1, 0, none⟩)]) rfl (by kernel_rfl) (by kernel_rfl) (by kernel_rfl) (fun _ _ _ h => h) (Or.inl ⟨by rfl, fun w hS => ?_⟩) hHeld ?_
  · go_simp
  simp only [Act.put]
  refine wpAnyH_ready (rs := [2]) (by kernel_rfl) (by simp) ?_
  refine AllReadyH.cons rfl (fun K hK => ?_) AllReadyH.nil
  go_simp
  refine (name_no (HFd2.out) hs (by simpa using hq)).mono ?_
  rintro e3 w3 ⟨rfl, hbl⟩
  have HCH := Lib.hid ((HWd2.out).2.2.trans (Chg.of_below (P := fun _ => False) hbl) (fun _ _ e => e.elim))
  unfold boom
  go_wp2
  refine ⟨rfl, ?_⟩
  rw [HNO.out]
  exact ⟨rfl, HCH.out⟩

end Go.Proofs.YtmbkjabjcphkbaaDoor
end
