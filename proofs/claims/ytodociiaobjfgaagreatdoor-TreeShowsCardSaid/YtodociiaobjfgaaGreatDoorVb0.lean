/- Vk Vl Vn Vr -/
import Derived.Test.YtodociiaobjfgaaGreatDoorVa3
import Derived.Lib.ItoaLen
set_option linter.unusedVariables false
set_option linter.unusedSimpArgs false
namespace Go.Proofs.YtodociiaobjfgaaGreatDoor
open Go.RowKit
section
theorem Xcu {w X : World} {g Bc Ba : Nat} {k p n d ch : Int} {s : List UInt8} {V : Value} (hX : X = (((w.alloc (.cells #[penV Bc Ba] 49)).alloc (.cells #[.int .i64 k, .int .i64 p, .int .i64 n, .string (Xaa s), V] 35)).alloc (.cells #[.int .i64 d] 3)).alloc (.cells #[.int .i64 ch] 3))
  (hg : g = w.heap.size) : ExFr X g Bc Ba k p n s V d ch ∧ X.heap.size = g + 4 := by
 subst hg
 refine ⟨⟨?_, ?_, ?_, ?_⟩, by rw [hX]; simp⟩
 · rw [hX, Below.heap_alloc _ _ _ (by simp; omega), Below.heap_alloc _ _ _ (by simp; omega), Below.heap_alloc _ _ _ (by simp)]; exact heap_alloc_new _ _
 · unfold Xbx
   rw [hX, Below.heap_alloc _ _ _ (by simp), Below.heap_alloc _ _ _ (by simp)]
   have := heap_alloc_new (w.alloc (.cells #[penV Bc Ba] 49)) (.cells #[.int .i64 k, .int .i64 p, .int .i64 n, .string (Xaa s), V] 35)
   simpa using this
 · rw [hX, Below.heap_alloc _ _ _ (by simp)]
   have := heap_alloc_new ((w.alloc (.cells #[penV Bc Ba] 49)).alloc (.cells #[.int .i64 k, .int .i64 p, .int .i64 n, .string (Xaa s), V] 35)) (.cells #[.int .i64 d] 3)
   simpa using this
 · rw [hX]
   have := heap_alloc_new (((w.alloc (.cells #[penV Bc Ba] 49)).alloc (.cells #[.int .i64 k, .int .i64 p, .int .i64 n, .string (Xaa s), V] 35)).alloc (.cells #[.int .i64 d] 3)) (.cells #[.int .i64 ch] 3)
   simpa using this
section
variable {w w1 w2 : World} {g Bc Ba B : Nat} {k p n : Int} {s : List UInt8} {V u v1 : Value} {d ch : Int} {T T1 : List (List UInt8)}
theorem ExFr.drew (h : ExFr w g Bc Ba k p n s V d ch) : ExFr w.drew g Bc Ba k p n s V d ch := h.keep fun _ _ => rfl
theorem Went.loc (h : Went w Bc Ba B u w1 v1 T1) (hc : Chg (fun b => b = g + 1) w1 w2) (hg : w.heap.size ≤ g + 1) (hn : ¬ Mine Bc Ba v1 (g + 1)) : Went w Bc Ba B u w2 v1 T1 :=
 ⟨h.1.keep fun b hb => hc.block b (h.1.mine hb).2 (fun e => hn (by rw [← e]; exact hb)), h.2.1, h.2.2.trans hc fun x hx e => by omega⟩
theorem ExFr.pc (h : ExFr w g Bc Ba k p n s V d ch) : w.cell? ⟨g, 0, none⟩ = some (.func (.func 27) #[] #[.pointer (some ⟨Bc, 0, none⟩), .pointer (some ⟨Ba, 0, none⟩)]) := by
 rw [cell_of_row w g 0 _ _ (0, 0) h.put]; rfl
theorem Xiy (hf : ExFr w g Bc Ba k p n s V d ch) (hs : s.length ≤ 40000) (hn : Xam s = true) :
  Calls Tryz.prog 83 #[.pointer (some ⟨g + 1, 0, none⟩)] w fun e w' => e = .returned (.string (Xaa s)) ∧ Chg (fun b => b = g + 1) w w' ∧ ExFr w' g Bc Ba k p n [] V d ch := by
 have hc := hf.ex.c3
 have hz := hf.ex.fr 3
 have hsz : (Xaa s).size ≤ 40000 := by rw [Lib.size_eq, Xak]; exact hs
 have HN := lh (Xba ⟨g + 1, 3, none⟩ (Xaa s) w hc hz hsz hn)
 clear hc hz hsz hn hs
 go_enter Tryz.func83, Tryz.ntmps83
 go_wp2_with fail
 refine HN.out.mono ?_
 rintro e w1 ⟨rfl, wm, hb, hw⟩
 have HB := lh hb
 clear hb
 go_wp2_with fail
 go_ret
 refine ⟨rfl, ?_, ?_⟩
 · exact (Chg.of_below HB.out).setCell _ _ (fun _ => rfl)
 · exact (hf.below HB.out).set3 []
theorem Xly (hf : ExFr w g Bc Ba k p n s V d ch) (hs : s.length ≤ 40000) (hn : Xam s = false) :
  Calls Tryz.prog 83 #[.pointer (some ⟨g + 1, 0, none⟩)] w fun e w' => e = boom ∧ Below w.heap.size w w' := by
 have hc := hf.ex.c3
 have hsz : (Xaa s).size ≤ 40000 := by rw [Lib.size_eq, Xak]; exact hs
 have HN := lh (Xdf ⟨g + 1, 3, none⟩ (Xaa s) w hc hsz hn)
 clear hc hsz hn hs
 go_enter Tryz.func83, Tryz.ntmps83
 go_wp2_with fail
 refine HN.out.mono ?_
 rintro e w1 ⟨rfl, hb⟩
 have HB := lh hb
 clear hb
 unfold boom
 go_wp2
 exact ⟨rfl, rfl, HB.out⟩
end
theorem Xgw.alloc_ {w0 w w' : World} {o : Obj} {g Bc Ba B : Nat} {u : Value} {k p n : Int} {s : List UInt8} {d ch : Int} {rest : List Ex} {R : Ts} {e : Ending} (h : Xgw w0 (w.alloc o) g Bc Ba B u k p n s d ch rest R e w') : Xgw w0 w g Bc Ba B u k p n s d ch rest R e w' := by
 have ha : ∀ P, Chg P w (w.alloc o) := fun P => (Chg.refl P w).alloc o
 cases R with
 | none => exact ⟨h.1, (ha _).trans h.2 (fun _ _ hx => hx)⟩
 | some T' =>
   obtain ⟨h1, u', V', h2, h3, h4, h5, h6⟩ := h
   refine ⟨h1, u', V', h2, fun b hb => ?_, (ha _).trans h4 (fun _ _ hx => hx), h5, h6⟩
   rcases h3 b hb with h | h
   · exact .inl h
   · right; simp at h; omega
section
variable {w0 w : World} {g Bc Ba B : Nat} {k p n : Int} {s : List UInt8} {V u : Value} {d ch : Int} {T : List (List UInt8)} {args : List Ex}
theorem Xga (hb : Below B w0 w) (hB : B ≤ g) (hg1 : Bc < g) (hg2 : Ba < g) (hp : Xap w Bc Ba B u T) (hf : ExFr w g Bc Ba k p n s V d ch) (hr : Xbd w0 B args V) (hd0 : 0 ≤ d) (hd : d ≤ 50) (ts : List (List UInt8)) (hl : ∀ t ∈ ts, t.length ≤ 40000) (hn : ts.length ≤ 1000) :
  Calls Tryz.prog 84 #[.slice (some ⟨w.heap.size, 0, none⟩) ts.length ts.length, .pointer (some ⟨g, 0, none⟩), .pointer (some ⟨g + 1, 0, none⟩), .pointer (some ⟨g + 1 + 1, 0, none⟩)] (w.alloc (.cells (Xck ts) 9))
   (Xgw w0 w g Bc Ba B u k p n s d ch args.tail (adv T (argC args d ts))) := by
 have hBw : B ≤ w.heap.size := Nat.le_trans hB (Nat.le_of_lt (hf.lt (.inl rfl)))
 have hb' : Below B w0 (w.alloc (.cells (Xck ts) 9)) := hb.alloc hBw _
 have hf' : ExFr (w.alloc (.cells (Xck ts) 9)) g Bc Ba k p n s V d ch := hf.below ((Below.refl _ w).alloc (Nat.le_refl _) _)
 have hs := Xjc w (fun b => Mine Bc Ba u b ∨ b = g + 1) ts hl (by omega) (fun hm => by
  rcases hm with hm | hm
  · have := (hp.mine hm).2; omega
  · have := hf.lt (b := g + 1) (.inr (.inl rfl)); omega)
 cases args with
 | nil => exact (arg_no hb' hB hg1 hg2 (hp.alloc _) hf' hr hd0 hd ts _ hs).mono fun e w' h => h.alloc_
 | cons e es => exact (arg_yes hb' hB hg1 hg2 (hp.alloc _) hf' hr hd0 hd ts _ hs).mono fun e w' h => h.alloc_
theorem Xpj (hb : Below B w0 w) (hB : B ≤ g) (hg1 : Bc < g) (hg2 : Ba < g) (hp : Xap w Bc Ba B u T) (hf : ExFr w g Bc Ba k p n s V d ch) (hr : Xbd w0 B args V) (hd0 : 0 ≤ d) (hd : d ≤ 50) (hc0 : 0 ≤ ch) (ts : List (List UInt8)) (hl : ∀ t ∈ ts, t.length ≤ 40000) (hn : ts.length ≤ 1000) :
  Calls Tryz.prog 85 #[.slice (some ⟨w.heap.size, 0, none⟩) ts.length ts.length, .pointer (some ⟨g + 1 + 1 + 1, 0, none⟩), .pointer (some ⟨g, 0, none⟩), .pointer (some ⟨g + 1, 0, none⟩), .pointer (some ⟨g + 1 + 1, 0, none⟩)] (w.alloc (.cells (Xck ts) 9))
   (Xgw w0 w g Bc Ba B u k p n s d ch args.tail (adv T (objC args d ch ts))) := by
 have hBw : B ≤ w.heap.size := Nat.le_trans hB (Nat.le_of_lt (hf.lt (.inl rfl)))
 have hb' : Below B w0 (w.alloc (.cells (Xck ts) 9)) := hb.alloc hBw _
 have hf' : ExFr (w.alloc (.cells (Xck ts) 9)) g Bc Ba k p n s V d ch := hf.below ((Below.refl _ w).alloc (Nat.le_refl _) _)
 have hs := Xjc w (fun b => Mine Bc Ba u b ∨ b = g + 1) ts hl (by omega) (fun hm => by
  rcases hm with hm | hm
  · have := (hp.mine hm).2; omega
  · have := hf.lt (b := g + 1) (.inr (.inl rfl)); omega)
 by_cases h8 : ch < 8
 · cases args with
   | nil => 
     rw [show objC [] d ch ts = none from by unfold objC; rw [if_pos h8]]
     exact (obj_no hb' hB hg1 hg2 (hp.alloc _) hf' hr hd0 hd hc0 h8 ts _ hs).mono fun e w' h => h.alloc_
   | cons e es =>
     rw [show objC (e :: es) d ch ts = cat (penE e d (ch + 1)) (some ts) from by unfold objC; rw [if_pos h8]]
     exact (obj_yes hb' hB hg1 hg2 (hp.alloc _) hf' hr hd0 hd hc0 h8 ts _ hs).mono fun e w' h => h.alloc_
 · rw [Xlz h8]
   exact (obj_deep hb' hB hg1 hg2 (hp.alloc _) hf' hd0 hd hc0 h8 ts _ hs).mono fun e w' h => ⟨h.alloc_.1, h.alloc_.2⟩
theorem Went.fr {w w1 w2 : World} {v1 u2 : Value} {T1 T2 : List (List UInt8)} (h : Went w Bc Ba B u w1 v1 T1) (hg : w.heap.size ≤ g) (hp : Xap w2 Bc Ba B u2 T2) (ho : ∀ b, u2.ownBlock = some b → v1.ownBlock = some b ∨ w1.heap.size ≤ b) (hc : Chg (fun b => Mine Bc Ba v1 b ∨ b = g + 1) w1 w2) : Went w Bc Ba B u w2 u2 T2 := by
 refine ⟨hp, fun b hb => ?_, h.2.2.trans hc fun x hx hm => ?_⟩
 · rcases ho b hb with h1 | h1
   · exact h.2.1 b h1
   · have := h.2.2.size; exact .inr (by omega)
 · rcases hm with hm | hm
   · exact h.mine hm hx
   · omega
theorem Went.fell_fr {w w1 w2 : World} {v1 : Value} {T1 : List (List UInt8)} (h : Went w Bc Ba B u w1 v1 T1) (hg : w.heap.size ≤ g) (hc : Chg (fun b => Mine Bc Ba v1 b ∨ b = g + 1) w1 w2) : Chg (Mine Bc Ba u) w w2 :=
 h.2.2.trans hc fun x hx hm => by
  rcases hm with hm | hm
  · exact h.mine hm hx
  · omega
end
end
set_option maxRecDepth 100000 in
set_option maxHeartbeats 2000000 in
theorem expr_3 {w0 w : World} {Bc Ba B : Nat} {u : Value} {T : List (List UInt8)} {p n : Int} {s : List UInt8} {r : Value} {args : List Ex} {d ch : Int} (hb : Below B w0 w) (hB : B ≤ w.heap.size) (hp : Xap w Bc Ba B u T) (hd0 : 0 ≤ d) (hd : d ≤ 24) (hc0 : 0 ≤ ch) (hr : Xbd w0 B args r) (hs : s.length ≤ 40000) :
  Calls Tryz.prog 70 #[penV Bc Ba, .agg #[.int .i64 3, .int .i64 p, .int .i64 n, .string (Xaa s), r], .int .i64 d, .int .i64 ch] w (Xal w Bc Ba B u (adv T (penE (.mk 3 p n s args) d ch))) := by
 have hmf : ∀ (fn : Fn) (first cap : Array Value) (w : World), (Instr.makeFunc fn first cap).run Tryz.prog w = .ok (.func fn first cap) w := fun _ _ _ _ => rfl
 obtain ⟨A, c, hrv, _, _, _⟩ := id hr
 subst hrv
 obtain ⟨X, hX⟩ : ∃ X : World, X = (((w.alloc (.cells #[penV Bc Ba] 49)).alloc (.cells #[.int .i64 3, .int .i64 p, .int .i64 n, .string (Xaa s), .slice A args.length c] 35)).alloc (.cells #[.int .i64 d] 3)).alloc (.cells #[.int .i64 ch] 3) := ⟨_, rfl⟩
 obtain ⟨g, hg⟩ : ∃ g, g = w.heap.size := ⟨_, rfl⟩
 obtain ⟨hf, hsz⟩ := Xcu hX hg
 have hw : Went w Bc Ba B u X u T := by rw [hX]; exact ((((Went.refl hp).alloc _).alloc _).alloc _).alloc _
 have e0 := hf.ex.c0
 have hg1 : Bc < g := by rw [hg]; exact Xab hp.cnt
 have hg2 : Ba < g := by rw [hg]; exact Xab hp.buf
 have hBg : B ≤ g := by rw [hg]; exact hB
 have hwg : w.heap.size ≤ g := by rw [hg]; exact Nat.le_refl _
 have hd50 : d ≤ 50 := by omega
 have HEQ := lh (congrArg (adv T) (penE_3 p n s args d ch hd))
 have HX := lh hX
 have HG := lh hg
 have HF := lh hf
 have HW := lh hw
 have HR := lh hr
 clear hX hg hf hw hsz hr
 unfold penV at HX ⊢
 go_enter Tryz.func70, Tryz.ntmps70
 go_wp2_with fail
 rw [← HX.out, ← HG.out]
 refine (Xaj _).mono ?_
 rintro e1 w1 ⟨rfl, rfl⟩
 have pc1 := (HF.out).pc
 go_wp2_with fail
 refine (Xaq (Went.refl (HW.out).1) (Nat.le_trans hB (HW.out).2.2.size) [[110, 105, 108]] (by intro t ht; simp at ht; have := hs; first | (rcases ht with rfl | rfl | rfl <;> first | decide | exact hs | simp) | (rw [ht]; first | decide | exact hs) | (rw [ht]; simp)) (by simp)).mono ?_
 rintro e2 w2 hpost
 cases hR : adv T (some [[110, 105, 108]]) with
 | none =>
   rw [hR] at hpost
   obtain ⟨rfl, hch⟩ := hpost
   have HNO := lh ((HEQ.out).trans (Xad hR _))
   have HCH := lh ((HW.out).fell hch)
   clear hR hch
   unfold boom
   go_wp2
   refine ⟨rfl, ?_⟩
   rw [HNO.out]
   exact ⟨rfl, HCH.out⟩
 | some T2 =>
   rw [hR] at hpost
   obtain ⟨rfl, u2, hwent⟩ := hpost
   have HW2 := lh ((HW.out).trans hwent)
   have HF2 := lh ((HF.out).went (HW.out).1 hg1 hg2 hwent)
   have HEQ2 := lh ((HEQ.out).trans (Xae hR _))
   clear hwent hR
   have c2 := (HF2.out).ex.c2
   have c3 := (HF2.out).ex.c3
   have c4 := (HF2.out).ex.c4
   have hz0 : (Xaa []).toList = [] := Xaf []
   obtain ⟨m, hm⟩ : ∃ m, m = (args).length := ⟨_, rfl⟩
   rw [← hm] at c4
   by_cases hn : n = 0
   case neg =>
    have HNO := lh ((HEQ2.out).trans (show adv T2 (need _ (some [])) = none from by rw [Xag (fun h => hn h.1)]; rfl))
    clear hm
    go_wp2_with fail
    refine (Xah _).mono ?_
    rintro e9 w9 ⟨rfl, rfl⟩
    unfold boom
    go_wp2
    refine ⟨rfl, ?_⟩
    rw [HNO.out]
    exact ⟨rfl, (HW2.out).2.2⟩
   by_cases hs0 : s = []
   case neg =>
    have HNO := lh ((HEQ2.out).trans (show adv T2 (need _ (some [])) = none from by rw [Xag (fun h => hs0 h.2.1)]; rfl))
    subst hn
    have hs1 : ¬ (Xaa s).toList = [] := by rw [Xaf]; exact hs0
    clear hm
    clear hs0
    go_wp2_with fail
    refine (Xah _).mono ?_
    rintro e9 w9 ⟨rfl, rfl⟩
    unfold boom
    go_wp2
    refine ⟨rfl, ?_⟩
    rw [HNO.out]
    exact ⟨rfl, (HW2.out).2.2⟩
   by_cases hl0 : (args).length = 0
   case neg =>
    have HNO := lh ((HEQ2.out).trans (show adv T2 (need _ (some [])) = none from by rw [Xag (fun h => hl0 h.2.2)]; rfl))
    subst hn
    subst hs0
    have hl1 : ((m : Int) == 0) = false := by rw [beq_eq_false_iff_ne]; omega
    clear hm
    clear hl0
    go_wp2_with fail
    refine (Xah _).mono ?_
    rintro e9 w9 ⟨rfl, rfl⟩
    unfold boom
    go_wp2
    refine ⟨rfl, ?_⟩
    rw [HNO.out]
    exact ⟨rfl, (HW2.out).2.2⟩
   have HFIN := lh ((HEQ2.out).trans (show adv T2 (need _ (some [])) = some T2 from by rw [Xai ⟨hn, hs0, hl0⟩]; exact Xbe (HW2.out).1.fit))
   subst hn
   subst hs0
   obtain rfl : m = 0 := by omega
   clear hm hl0
   go_wp2_with fail
   refine (Xaj _).mono ?_
   rintro e9 w9 ⟨rfl, rfl⟩
   go_wp2
   go_end0
   rw [HFIN.out]
   exact ⟨rfl, _, HW2.out⟩
set_option maxRecDepth 100000 in
set_option maxHeartbeats 2000000 in
theorem expr_6 {w0 w : World} {Bc Ba B : Nat} {u : Value} {T : List (List UInt8)} {p n : Int} {s : List UInt8} {r : Value} {args : List Ex} {d ch : Int} (hb : Below B w0 w) (hB : B ≤ w.heap.size) (hp : Xap w Bc Ba B u T) (hd0 : 0 ≤ d) (hd : d ≤ 24) (hc0 : 0 ≤ ch) (hr : Xbd w0 B args r) (hs : s.length ≤ 40000) :
  Calls Tryz.prog 70 #[penV Bc Ba, .agg #[.int .i64 6, .int .i64 p, .int .i64 n, .string (Xaa s), r], .int .i64 d, .int .i64 ch] w (Xal w Bc Ba B u (adv T (penE (.mk 6 p n s args) d ch))) := by
 have hmf : ∀ (fn : Fn) (first cap : Array Value) (w : World), (Instr.makeFunc fn first cap).run Tryz.prog w = .ok (.func fn first cap) w := fun _ _ _ _ => rfl
 obtain ⟨A, c, hrv, _, _, _⟩ := id hr
 subst hrv
 obtain ⟨X, hX⟩ : ∃ X : World, X = (((w.alloc (.cells #[penV Bc Ba] 49)).alloc (.cells #[.int .i64 6, .int .i64 p, .int .i64 n, .string (Xaa s), .slice A args.length c] 35)).alloc (.cells #[.int .i64 d] 3)).alloc (.cells #[.int .i64 ch] 3) := ⟨_, rfl⟩
 obtain ⟨g, hg⟩ : ∃ g, g = w.heap.size := ⟨_, rfl⟩
 obtain ⟨hf, hsz⟩ := Xcu hX hg
 have hw : Went w Bc Ba B u X u T := by rw [hX]; exact ((((Went.refl hp).alloc _).alloc _).alloc _).alloc _
 have e0 := hf.ex.c0
 have hg1 : Bc < g := by rw [hg]; exact Xab hp.cnt
 have hg2 : Ba < g := by rw [hg]; exact Xab hp.buf
 have hBg : B ≤ g := by rw [hg]; exact hB
 have hwg : w.heap.size ≤ g := by rw [hg]; exact Nat.le_refl _
 have hd50 : d ≤ 50 := by omega
 have HEQ := lh (congrArg (adv T) (penE_6 p n s args d ch hd))
 have HX := lh hX
 have HG := lh hg
 have HF := lh hf
 have HW := lh hw
 have HR := lh hr
 clear hX hg hf hw hsz hr
 unfold penV at HX ⊢
 go_enter Tryz.func70, Tryz.ntmps70
 go_wp2_with fail
 rw [← HX.out, ← HG.out]
 refine (Xaj _).mono ?_
 rintro e1 w1 ⟨rfl, rfl⟩
 have pc1 := (HF.out).pc
 go_wp2_with fail
 refine (Xpj (hb.trans ((HW.out).2.2.below hB (fun x hx => (hp.mine hx).1))) hBg hg1 hg2 (HW.out).1 (HF.out) (HR.out) hd0 hd50 hc0 [[91]] (by intro t ht; simp at ht; have := hs; first | (rcases ht with rfl | rfl | rfl <;> first | decide | exact hs | simp) | (rw [ht]; first | decide | exact hs) | (rw [ht]; simp)) (by simp)).mono ?_
 rintro e2 w2 hpost
 cases hR : adv T (objC args d ch [[91]]) with
 | none =>
   rw [hR] at hpost
   obtain ⟨rfl, hch⟩ := hpost
   have HNO := lh ((HEQ.out).trans (Xad hR _))
   have HCH := lh ((HW.out).fell_fr hwg hch)
   clear hR hch
   unfold boom
   go_wp2
   refine ⟨rfl, ?_⟩
   rw [HNO.out]
   exact ⟨rfl, HCH.out⟩
 | some T2 =>
   rw [hR] at hpost
   obtain ⟨rfl, u2, V2, hpA, hown, hch, hfr, hrd⟩ := hpost
   obtain ⟨A2, c2, hV, _, _, _⟩ := id hrd
   subst hV
   have HW2 := lh ((HW.out).fr hwg hpA hown hch)
   have HF2 := lh hfr
   have HR2 := lh hrd
   have HEQ2 := lh ((HEQ.out).trans (Xae hR _))
   clear hpA hown hch hfr hrd hR
   have pc3 := (HF2.out).pc
   go_wp2_with fail
   refine (Xga (hb.trans ((HW2.out).2.2.below hB (fun x hx => (hp.mine hx).1))) hBg hg1 hg2 (HW2.out).1 (HF2.out) (HR2.out) hd0 hd50 [[93]] (by intro t ht; simp at ht; have := hs; first | (rcases ht with rfl | rfl | rfl <;> first | decide | exact hs | simp) | (rw [ht]; first | decide | exact hs) | (rw [ht]; simp)) (by simp)).mono ?_
   rintro e4 w4 hpost
   cases hR : adv T2 (argC args.tail d [[93]]) with
   | none =>
     rw [hR] at hpost
     obtain ⟨rfl, hch⟩ := hpost
     have HNO := lh ((HEQ2.out).trans (Xad hR _))
     have HCH := lh ((HW2.out).fell_fr hwg hch)
     clear hR hch
     unfold boom
     go_wp2
     refine ⟨rfl, ?_⟩
     rw [HNO.out]
     exact ⟨rfl, HCH.out⟩
   | some T4 =>
     rw [hR] at hpost
     obtain ⟨rfl, u4, V4, hpA, hown, hch, hfr, hrd⟩ := hpost
     obtain ⟨A4, c4, hV, _, _, _⟩ := id hrd
     subst hV
     have HW4 := lh ((HW2.out).fr hwg hpA hown hch)
     have HF4 := lh hfr
     have HR4 := lh hrd
     have HEQ4 := lh ((HEQ2.out).trans (Xae hR _))
     clear hpA hown hch hfr hrd hR
     have c2 := (HF4.out).ex.c2
     have c3 := (HF4.out).ex.c3
     have c4 := (HF4.out).ex.c4
     have hz0 : (Xaa []).toList = [] := Xaf []
     obtain ⟨m, hm⟩ : ∃ m, m = (args.tail.tail).length := ⟨_, rfl⟩
     rw [← hm] at c4
     by_cases hn : n = 0
     case neg =>
      have HNO := lh ((HEQ4.out).trans (show adv T4 (need _ (some [])) = none from by rw [Xag (fun h => hn h.1)]; rfl))
      clear hm
      go_wp2_with fail
      refine (Xah _).mono ?_
      rintro e9 w9 ⟨rfl, rfl⟩
      unfold boom
      go_wp2
      refine ⟨rfl, ?_⟩
      rw [HNO.out]
      exact ⟨rfl, (HW4.out).2.2⟩
     by_cases hs0 : s = []
     case neg =>
      have HNO := lh ((HEQ4.out).trans (show adv T4 (need _ (some [])) = none from by rw [Xag (fun h => hs0 h.2.1)]; rfl))
      subst hn
      have hs1 : ¬ (Xaa s).toList = [] := by rw [Xaf]; exact hs0
      clear hm
      clear hs0
      go_wp2_with fail
      refine (Xah _).mono ?_
      rintro e9 w9 ⟨rfl, rfl⟩
      unfold boom
      go_wp2
      refine ⟨rfl, ?_⟩
      rw [HNO.out]
      exact ⟨rfl, (HW4.out).2.2⟩
     by_cases hl0 : (args.tail.tail).length = 0
     case neg =>
      have HNO := lh ((HEQ4.out).trans (show adv T4 (need _ (some [])) = none from by rw [Xag (fun h => hl0 h.2.2)]; rfl))
      subst hn
      subst hs0
      have hl1 : ((m : Int) == 0) = false := by rw [beq_eq_false_iff_ne]; omega
      clear hm
      clear hl0
      go_wp2_with fail
      refine (Xah _).mono ?_
      rintro e9 w9 ⟨rfl, rfl⟩
      unfold boom
      go_wp2
      refine ⟨rfl, ?_⟩
      rw [HNO.out]
      exact ⟨rfl, (HW4.out).2.2⟩
     have HFIN := lh ((HEQ4.out).trans (show adv T4 (need _ (some [])) = some T4 from by rw [Xai ⟨hn, hs0, hl0⟩]; exact Xbe (HW4.out).1.fit))
     subst hn
     subst hs0
     obtain rfl : m = 0 := by omega
     clear hm hl0
     go_wp2_with fail
     refine (Xaj _).mono ?_
     rintro e9 w9 ⟨rfl, rfl⟩
     go_wp2
     go_end0
     rw [HFIN.out]
     exact ⟨rfl, _, HW4.out⟩
section
theorem Xmr (l : List (List UInt8)) (s : List UInt8) : Lib.containsS (l.map Xaa) (Xaa s) = decide (s ∈ l) := by
 rw [Bool.eq_iff_iff, Lib.containsS_iff, decide_eq_true_eq, List.mem_map]
 constructor
 · rintro ⟨t, ht, e⟩
   have := congrArg (fun b : ByteArray => b.data.toList) e
   rw [Xak, Xak] at this
   rw [← this]; exact ht
 · intro h; exact ⟨s, h, rfl⟩
section
variable {w0 w : World} {g Bc Ba B : Nat} {k p n : Int} {s : List UInt8} {V : Value} {d ch : Int}
theorem ExFr.set_below {w1 w' : World} (h : ExFr w g Bc Ba k p n s V d ch) {i : Nat} {x : Value} (hb : Below w.heap.size (w.setCell ⟨g + 1, i, none⟩ x) w') : Chg (fun b => b = g + 1) w w' :=
 Chg.put_ (p := ⟨g + 1, i, none⟩) (Below.refl _ w) rfl hb
theorem num_yes (hf : ExFr w g Bc Ba k p n s V d ch) (hb : Below B w0 w) (hBg : B ≤ g) (htab : Lib.TabBelow Tryz.prog B w0 "internal/strconv.uint64pow10" .u64 Lib.pow10Tab) (h : 0 ≤ n ∧ n ≤ 999999999999999999) :
  Calls Tryz.prog 40 #[.pointer (some ⟨g + 1, 2, none⟩), .int .i64 0, .int .i64 999999999999999999] w fun e w' => e = .returned (.string (Xaa (Lib.itoa n))) ∧ Chg (fun b => b = g + 1) w w' ∧ ExFr w' g Bc Ba k p 0 s V d ch := by
 refine (Xkk ⟨g + 1, 2, none⟩ n 0 999999999999999999 w hf.ex.c2 (hf.ex.fr 2) h.1 h.2 (by omega) (by omega) (fun x => htab _ (hb.setCell (by simp; omega) _))).mono ?_
 rintro e w' ⟨rfl, hbl⟩
 exact ⟨rfl, hf.set_below (w1 := w') hbl, (hf.set2 0).keep fun b hb => hbl.block b (hf.lt hb)⟩
theorem num_no (hf : ExFr w g Bc Ba k p n s V d ch) (h : ¬ (0 ≤ n ∧ n ≤ 999999999999999999)) :
  Calls Tryz.prog 40 #[.pointer (some ⟨g + 1, 2, none⟩), .int .i64 0, .int .i64 999999999999999999] w fun e w' => e = boom ∧ Below w.heap.size w w' :=
 (Xli ⟨g + 1, 2, none⟩ n 0 999999999999999999 w hf.ex.c2 h).mono fun e w' h => ⟨h.1, by rw [← h.2]; exact Below.refl _ _⟩
theorem bool_yes (hf : ExFr w g Bc Ba k p n s V d ch) (h : n = 0 ∨ n = 1) (tx : List UInt8) (htx : tx = if n = 1 then [116, 114, 117, 101] else [102, 97, 108, 115, 101]) :
  Calls Tryz.prog 86 #[.pointer (some ⟨g + 1, 2, none⟩)] w fun e w' => e = .returned (.string (Xaa tx)) ∧ Chg (fun b => b = g + 1) w w' ∧ ExFr w' g Bc Ba k p 0 s V d ch := by
 subst htx
 refine (Xof ⟨g + 1, 2, none⟩ n w hf.ex.c2 (hf.ex.fr 2) h).mono ?_
 rintro e w' ⟨rfl, rfl⟩
 exact ⟨rfl, (Chg.refl _ w).setCell _ _ (fun _ => rfl), hf.set2 0⟩
theorem bool_no (hf : ExFr w g Bc Ba k p n s V d ch) (h : ¬ (n = 0 ∨ n = 1)) :
  Calls Tryz.prog 86 #[.pointer (some ⟨g + 1, 2, none⟩)] w fun e w' => e = boom ∧ Below w.heap.size w w' :=
 (Xpy ⟨g + 1, 2, none⟩ n w hf.ex.c2 h).mono fun e w' h => ⟨h.1, by rw [← h.2]; exact Below.refl _ _⟩
theorem Xjb (hf : ExFr w g Bc Ba k p n s V d ch) (l : List (List UInt8)) (hl : l.length ≤ 1000) :
  Calls Tryz.prog 87 #[.pointer (some ⟨g + 1, 3, none⟩), .slice (some ⟨w.heap.size, 0, none⟩) l.length l.length] (w.alloc (.cells (Xck l) 9)) fun e w' =>
   (s ∈ l → e = .returned (.string (Xaa s)) ∧ Chg (fun b => b = g + 1) w w' ∧ ExFr w' g Bc Ba k p n [] V d ch) ∧ (¬ s ∈ l → e = boom ∧ Below w.heap.size w w') := by
 have ha : Below w.heap.size w (w.alloc (.cells (Xck l) 9)) := (Below.refl _ w).alloc (Nat.le_refl _) _
 have hf' := hf.below ha
 refine (Xog ⟨g + 1, 3, none⟩ s w.heap.size l.length l.length (l.map Xaa) _ hf'.ex.c3 (hf'.ex.fr 3) (by simp) hl (fun j hj => ?_) (decide (s ∈ l)) (Xmr l s).symm).mono ?_
 · rw [Nat.zero_add, cell_of_row _ w.heap.size j _ _ (0, 0) (heap_alloc_new w _)]
   have hj' : j < l.length := by simpa using hj
   simp [Xck, List.getD, List.getElem?_eq_getElem hj']
 · rintro e w' ⟨h1, h2⟩
   refine ⟨fun h => ?_, fun h => ?_⟩
   · obtain ⟨h3, h4⟩ := h1 (by simpa using h)
     refine ⟨h3, ?_, ?_⟩
     · rw [h4]; exact ((Chg.refl _ w).alloc _).setCell _ _ (fun _ => rfl)
     · rw [h4]; exact hf'.set3 []
   · obtain ⟨h3, h4⟩ := h2 (by simpa using h)
     exact ⟨h3, by rw [← h4]; exact ha⟩
end
end
set_option maxRecDepth 100000 in
set_option maxHeartbeats 2000000 in
theorem Xrz {w0 w : World} {Bc Ba B : Nat} {u : Value} {T : List (List UInt8)} {p n : Int} {s : List UInt8} {r : Value} {args : List Ex} {d ch : Int} (hb : Below B w0 w) (hB : B ≤ w.heap.size) (hp : Xap w Bc Ba B u T) (hd0 : 0 ≤ d) (hd : d ≤ 24) (hc0 : 0 ≤ ch) (hr : Xbd w0 B args r) (hs : s.length ≤ 40000) (hq : s = [45] ∨ s = [33]) :
  Calls Tryz.prog 70 #[penV Bc Ba, .agg #[.int .i64 9, .int .i64 p, .int .i64 n, .string (Xaa s), r], .int .i64 d, .int .i64 ch] w (Xal w Bc Ba B u (adv T (penE (.mk 9 p n s args) d ch))) := by
 have hmf : ∀ (fn : Fn) (first cap : Array Value) (w : World), (Instr.makeFunc fn first cap).run Tryz.prog w = .ok (.func fn first cap) w := fun _ _ _ _ => rfl
 obtain ⟨A, c, hrv, _, _, _⟩ := id hr
 subst hrv
 obtain ⟨X, hX⟩ : ∃ X : World, X = (((w.alloc (.cells #[penV Bc Ba] 49)).alloc (.cells #[.int .i64 9, .int .i64 p, .int .i64 n, .string (Xaa s), .slice A args.length c] 35)).alloc (.cells #[.int .i64 d] 3)).alloc (.cells #[.int .i64 ch] 3) := ⟨_, rfl⟩
 obtain ⟨g, hg⟩ : ∃ g, g = w.heap.size := ⟨_, rfl⟩
 obtain ⟨hf, hsz⟩ := Xcu hX hg
 have hw : Went w Bc Ba B u X u T := by rw [hX]; exact ((((Went.refl hp).alloc _).alloc _).alloc _).alloc _
 have e0 := hf.ex.c0
 have hg1 : Bc < g := by rw [hg]; exact Xab hp.cnt
 have hg2 : Ba < g := by rw [hg]; exact Xab hp.buf
 have hBg : B ≤ g := by rw [hg]; exact hB
 have hwg : w.heap.size ≤ g := by rw [hg]; exact Nat.le_refl _
 have hd50 : d ≤ 50 := by omega
 have HEQ := lh (congrArg (adv T) ((penE_9 p n s args d ch hd).trans (Xaw hq _)))
 have HX := lh hX
 have HG := lh hg
 have HF := lh hf
 have HW := lh hw
 have HR := lh hr
 clear hX hg hf hw hsz hr
 unfold penV at HX ⊢
 go_enter Tryz.func70, Tryz.ntmps70
 go_wp2_with fail
 rw [← HX.out, ← HG.out]
 refine (Xaj _).mono ?_
 rintro e1 w1 ⟨rfl, rfl⟩
 have pc1 := (HF.out).pc
 go_wp2_with fail
 refine wp_region_held_drew (S := fun w' => w'.cell? ⟨g, 0, none⟩ = some (.func (.func 27) #[] #[.pointer (some ⟨Bc, 0, none⟩), .pointer (some ⟨Ba, 0, none⟩)])) (by kernel_rfl) pc1 (fun hHeld => ?_)
 have HWd2 := lh ((HW.out).drew)
 have HFd2 := lh ((HF.out).drew)
 refine wpAnyH_take (i := 0) (oi := _) (v := .func (.func 27) #[] #[.pointer (some ⟨Bc, 0, none⟩), .pointer (some ⟨Ba, 0, none⟩)]) rfl (by kernel_rfl) (by kernel_rfl) (by kernel_rfl) (fun _ _ _ h => h) (Or.inl ⟨by rfl, fun w hS => ?_⟩) hHeld ?_
 · go_simp
 simp only [Act.put]
 refine wpAnyH_take (i := 1) (oi := _) (v := .pointer (some ⟨g + 1, 3, none⟩)) rfl (by kernel_rfl) (by kernel_rfl) (by kernel_rfl) (fun _ _ _ h => h) (Or.inl ⟨by rfl, fun w hS => ?_⟩) hHeld ?_
 · go_simp
 simp only [Act.put]
 refine wpAnyH_ready (rs := [2]) (by kernel_rfl) (by simp) ?_
 refine AllReadyH.cons rfl (fun K hK => ?_) AllReadyH.nil
 go_simp
 refine hK.out _ _ ((HFd2.out).below ((Below.refl _ _).alloc (Nat.le_refl _) _)).pc (fun hHeld => ?_)
 clear hK K
 refine wpAnyH_ready (rs := [3]) (by kernel_rfl) (by simp) ?_
 refine AllReadyH.cons rfl (fun K hK => ?_) AllReadyH.nil
 go_simp
 refine (Xjb (HFd2.out) [[45], [33]] (by simp)).mono ?_
 rintro e3 w3 hsg
 obtain ⟨rfl, hch, hfr⟩ := hsg.1 (by rcases hq with rfl | rfl <;> simp)
 clear hsg
 have HW3 := lh ((HWd2.out).loc (w2 := w3) (hch) (Nat.le_succ_of_le hwg) ((HFd2.out).nm (HWd2.out).1 hg1 hg2 (.inr (.inl rfl))))
 have HF3 : Hid (ExFr w3 g Bc Ba 9 p n [] _ d ch) := lh (hfr)
 clear hch hfr
 have hk4 := (HF3.out).pc
 go_wp2_with fail
 refine hK.out _ _ hk4 (fun hHeld => ?_)
 clear hK K
 refine wpAnyH_ready (rs := [4]) (by kernel_rfl) (by simp) ?_
 refine AllReadyH.cons rfl (fun K hK => ?_) AllReadyH.nil
 go_simp
 refine hK.out _ _ ((HF3.out).below ((Below.refl _ _).alloc (Nat.le_refl _) _)).pc (fun hHeld => ?_)
 clear hK K
 refine wpAnyH_ready (rs := [5]) (by kernel_rfl) (by simp) ?_
 refine AllReadyH.cons rfl (fun K hK => ?_) AllReadyH.nil
 go_simp
 refine (Xaq (Went.refl (HW3.out).1) (Nat.le_trans hB (HW3.out).2.2.size) [[40], s] (by intro t ht; simp at ht; have := hs; first | (rcases ht with rfl | rfl | rfl <;> first | decide | exact hs | simp) | (rw [ht]; first | decide | exact hs) | (rw [ht]; simp)) (by simp)).mono ?_
 rintro e5 w5 hpost
 cases hR : adv T (some [[40], s]) with
 | none =>
   rw [hR] at hpost
   obtain ⟨rfl, hch⟩ := hpost
   have HNO := lh ((HEQ.out).trans (Xad hR _))
   have HCH := lh ((HW3.out).fell hch)
   clear hR hch
   unfold boom
   go_wp2
   refine ⟨rfl, ?_⟩
   rw [HNO.out]
   exact ⟨rfl, HCH.out⟩
 | some T5 =>
   rw [hR] at hpost
   obtain ⟨rfl, u5, hwent⟩ := hpost
   have HW5 := lh ((HW3.out).trans hwent)
   have HF5 := lh ((HF3.out).went (HW3.out).1 hg1 hg2 hwent)
   have HEQ5 := lh ((HEQ.out).trans (Xae hR _))
   clear hwent hR
   have hk6 := (HF5.out).pc
   go_wp2_with fail
   refine hK.out _ _ hk6 (fun hHeld => ?_)
   clear hK K
   refine wpAnyH_done (by kernel_rfl) ?_ _
   have pc7 := (HF5.out).pc
   go_wp2_with fail
   refine (Xga (hb.trans ((HW5.out).2.2.below hB (fun x hx => (hp.mine hx).1))) hBg hg1 hg2 (HW5.out).1 (HF5.out) (HR.out) hd0 hd50 [[41]] (by intro t ht; simp at ht; have := hs; first | (rcases ht with rfl | rfl | rfl <;> first | decide | exact hs | simp) | (rw [ht]; first | decide | exact hs) | (rw [ht]; simp)) (by simp)).mono ?_
   rintro e8 w8 hpost
   cases hR : adv T5 (argC args d [[41]]) with
   | none =>
     rw [hR] at hpost
     obtain ⟨rfl, hch⟩ := hpost
     have HNO := lh ((HEQ5.out).trans (Xad hR _))
     have HCH := lh ((HW5.out).fell_fr hwg hch)
     clear hR hch
     unfold boom
     go_wp2
     refine ⟨rfl, ?_⟩
     rw [HNO.out]
     exact ⟨rfl, HCH.out⟩
   | some T8 =>
     rw [hR] at hpost
     obtain ⟨rfl, u8, V8, hpA, hown, hch, hfr, hrd⟩ := hpost
     obtain ⟨A8, c8, hV, _, _, _⟩ := id hrd
     subst hV
     have HW8 := lh ((HW5.out).fr hwg hpA hown hch)
     have HF8 := lh hfr
     have HR8 := lh hrd
     have HEQ8 := lh ((HEQ5.out).trans (Xae hR _))
     clear hpA hown hch hfr hrd hR
     have c2 := (HF8.out).ex.c2
     have c3 := (HF8.out).ex.c3
     have c4 := (HF8.out).ex.c4
     have hz0 : (Xaa []).toList = [] := Xaf []
     obtain ⟨m, hm⟩ : ∃ m, m = (args.tail).length := ⟨_, rfl⟩
     rw [← hm] at c4
     by_cases hn : n = 0
     case neg =>
      have HNO := lh ((HEQ8.out).trans (show adv T8 (need _ (some [])) = none from by rw [Xag (fun h => hn h.1)]; rfl))
      clear hm
      go_wp2_with fail
      refine (Xah _).mono ?_
      rintro e9 w9 ⟨rfl, rfl⟩
      unfold boom
      go_wp2
      refine ⟨rfl, ?_⟩
      rw [HNO.out]
      exact ⟨rfl, (HW8.out).2.2⟩
     by_cases hl0 : (args.tail).length = 0
     case neg =>
      have HNO := lh ((HEQ8.out).trans (show adv T8 (need _ (some [])) = none from by rw [Xag (fun h => hl0 h.2)]; rfl))
      subst hn
      have hl1 : ((m : Int) == 0) = false := by rw [beq_eq_false_iff_ne]; omega
      clear hm
      clear hl0
      go_wp2_with fail
      refine (Xah _).mono ?_
      rintro e9 w9 ⟨rfl, rfl⟩
      unfold boom
      go_wp2
      refine ⟨rfl, ?_⟩
      rw [HNO.out]
      exact ⟨rfl, (HW8.out).2.2⟩
     have HFIN := lh ((HEQ8.out).trans (show adv T8 (need _ (some [])) = some T8 from by rw [Xai ⟨hn, hl0⟩]; exact Xbe (HW8.out).1.fit))
     subst hn
     obtain rfl : m = 0 := by omega
     clear hm hl0
     go_wp2_with fail
     refine (Xaj _).mono ?_
     rintro e9 w9 ⟨rfl, rfl⟩
     go_wp2
     go_end0
     rw [HFIN.out]
     exact ⟨rfl, _, HW8.out⟩
set_option maxRecDepth 100000 in
set_option maxHeartbeats 2000000 in
theorem Xup {w0 w : World} {Bc Ba B : Nat} {u : Value} {T : List (List UInt8)} {p n : Int} {s : List UInt8} {r : Value} {args : List Ex} {d ch : Int} (hb : Below B w0 w) (hB : B ≤ w.heap.size) (hp : Xap w Bc Ba B u T) (hd0 : 0 ≤ d) (hd : d ≤ 24) (hc0 : 0 ≤ ch) (hr : Xbd w0 B args r) (hs : s.length ≤ 40000) (hq : ¬ (s = [45] ∨ s = [33])) :
  Calls Tryz.prog 70 #[penV Bc Ba, .agg #[.int .i64 9, .int .i64 p, .int .i64 n, .string (Xaa s), r], .int .i64 d, .int .i64 ch] w (Xal w Bc Ba B u (adv T (penE (.mk 9 p n s args) d ch))) := by
 have hmf : ∀ (fn : Fn) (first cap : Array Value) (w : World), (Instr.makeFunc fn first cap).run Tryz.prog w = .ok (.func fn first cap) w := fun _ _ _ _ => rfl
 obtain ⟨A, c, hrv, _, _, _⟩ := id hr
 subst hrv
 obtain ⟨X, hX⟩ : ∃ X : World, X = (((w.alloc (.cells #[penV Bc Ba] 49)).alloc (.cells #[.int .i64 9, .int .i64 p, .int .i64 n, .string (Xaa s), .slice A args.length c] 35)).alloc (.cells #[.int .i64 d] 3)).alloc (.cells #[.int .i64 ch] 3) := ⟨_, rfl⟩
 obtain ⟨g, hg⟩ : ∃ g, g = w.heap.size := ⟨_, rfl⟩
 obtain ⟨hf, hsz⟩ := Xcu hX hg
 have hw : Went w Bc Ba B u X u T := by rw [hX]; exact ((((Went.refl hp).alloc _).alloc _).alloc _).alloc _
 have e0 := hf.ex.c0
 have hg1 : Bc < g := by rw [hg]; exact Xab hp.cnt
 have hg2 : Ba < g := by rw [hg]; exact Xab hp.buf
 have hBg : B ≤ g := by rw [hg]; exact hB
 have hwg : w.heap.size ≤ g := by rw [hg]; exact Nat.le_refl _
 have hd50 : d ≤ 50 := by omega
 have HEQ := lh (congrArg (adv T) ((penE_9 p n s args d ch hd).trans (Xaz hq _)))
 have HX := lh hX
 have HG := lh hg
 have HF := lh hf
 have HW := lh hw
 have HR := lh hr
 clear hX hg hf hw hsz hr
 unfold penV at HX ⊢
 go_enter Tryz.func70, Tryz.ntmps70
 go_wp2_with fail
 rw [← HX.out, ← HG.out]
 refine (Xaj _).mono ?_
 rintro e1 w1 ⟨rfl, rfl⟩
 have HNO := HEQ
 have pc1 := (HF.out).pc
 go_wp2_with fail
 refine wp_region_held_drew (S := fun w' => w'.cell? ⟨g, 0, none⟩ = some (.func (.func 27) #[] #[.pointer (some ⟨Bc, 0, none⟩), .pointer (some ⟨Ba, 0, none⟩)])) (by kernel_rfl) pc1 (fun hHeld => ?_)
 have HWd2 := lh ((HW.out).drew)
 have HFd2 := lh ((HF.out).drew)
 refine wpAnyH_take (i := 0) (oi := _) (v := .func (.func 27) #[] #[.pointer (some ⟨Bc, 0, none⟩), .pointer (some ⟨Ba, 0, none⟩)]) rfl (by kernel_rfl) (by kernel_rfl) (by kernel_rfl) (fun _ _ _ h => h) (Or.inl ⟨by rfl, fun w hS => ?_⟩) hHeld ?_
 · go_simp
 simp only [Act.put]
 refine wpAnyH_take (i := 1) (oi := _) (v := .pointer (some ⟨g + 1, 3, none⟩)) rfl (by kernel_rfl) (by kernel_rfl) (by kernel_rfl) (fun _ _ _ h => h) (Or.inl ⟨by rfl, fun w hS => ?_⟩) hHeld ?_
 · go_simp
 simp only [Act.put]
 refine wpAnyH_ready (rs := [2]) (by kernel_rfl) (by simp) ?_
 refine AllReadyH.cons rfl (fun K hK => ?_) AllReadyH.nil
 go_simp
 refine hK.out _ _ ((HFd2.out).below ((Below.refl _ _).alloc (Nat.le_refl _) _)).pc (fun hHeld => ?_)
 clear hK K
 refine wpAnyH_ready (rs := [3]) (by kernel_rfl) (by simp) ?_
 refine AllReadyH.cons rfl (fun K hK => ?_) AllReadyH.nil
 go_simp
 refine (Xjb (HFd2.out) [[45], [33]] (by simp)).mono ?_
 rintro e3 w3 hsg
 obtain ⟨rfl, hbl⟩ := hsg.2 (by intro h; simp at h; exact hq h)
 clear hsg
 have HCH := lh ((HWd2.out).2.2.trans (Chg.of_below (P := fun _ => False) hbl) (fun _ _ e => e.elim))
 unfold boom
 go_wp2
 refine ⟨rfl, ?_⟩
 rw [HNO.out]
 exact ⟨rfl, HCH.out⟩
end Go.Proofs.YtodociiaobjfgaaGreatDoor
