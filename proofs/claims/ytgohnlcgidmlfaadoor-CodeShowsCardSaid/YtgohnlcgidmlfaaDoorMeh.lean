/- Package code: a call's result. -/
import Derived.Test.YtgohnlcgidmlfaaDoorMeg
set_option linter.unusedVariables false
set_option linter.unusedSimpArgs false
namespace Go.Proofs.YtgohnlcgidmlfaaDoor
open Go.RowKit

theorem wi_drew {w : World} (lo hi x : Int) (hx : In64 x) :
    Calls Tryd.prog 43 #[.int .i64 lo, .int .i64 hi, .slice (some ⟨w.heap.size, 0, none⟩) 1 1] (w.alloc (.cells #[.int .i64 x] 3)).drew fun e w' => e = .returned (.bool (rg lo hi x)) ∧ Below w.heap.size w w' :=
  (wi_lit (w := (w.alloc (.cells #[.int .i64 x] 3)).drew) [x] lo hi rfl (heap_alloc_new w _) (by simpa using hx) (by simp)).mono fun e w' ⟨he, hb⟩ => ⟨by rw [he]; simp [wi], (((Below.refl _ w).alloc (Nat.le_refl _) _).drew).trans (hb.mono (by show w.heap.size ≤ (w.alloc _).heap.size; rw [asz]; omega))⟩

set_option maxHeartbeats 4000000 in
set_option maxRecDepth 100000 in
theorem resultRight_any {w : World} {m : Mo} {v : Vm} {F : Fn} {u z : Value} {n : Int} {O : Opx} {S : Nat → Prop} (hb : BdOk w m v F u n) (hz : Lies KI w S O.args z) (hS : ∀ b, S b → b < w.heap.size) (ho : O.In) (ha : 0 ≤ O.a ∧ O.a < (m.funcs.length : Int)) :
    Calls Tryd.prog 64 #[.agg #[v.g, v.s, v.c, v.l, v.i, v.o, v.h, v.f, v.t, .string (bs F.name), .int .i64 F.params, .int .i64 F.regs, .int .i64 F.result, u, .int .i64 n], .agg #[.int .i64 O.kind, .int .i64 O.a, .int .i64 O.b, .int .i64 O.c, .int .i64 O.d, .int .i64 O.e, .int .i64 O.f, .int .i64 O.k, z, .int .i64 O.next, .int .i64 O.els, .int .i64 O.pl]] w fun e w' => e = .returned (.bool (resB m F O)) ∧ Below w.heap.size w w' := by
  obtain ⟨A7, c7, e7, -, hl7⟩ := hb.mo.f.form
  obtain ⟨A9, c9, rfl, -, hl9⟩ := hb.code.form
  obtain ⟨A10, c10, rfl, -, hl10⟩ := hz.form
  obtain ⟨n7, hn7⟩ : ∃ n, n = m.funcs.length := ⟨_, rfl⟩
  obtain ⟨n9, hn9⟩ : ∃ n, n = F.code.length := ⟨_, rfl⟩
  obtain ⟨n10, hn10⟩ : ∃ n, n = O.args.length := ⟨_, rfl⟩
  obtain ⟨X, hX⟩ : ∃ X : World, X = (w.alloc (.cells #[v.g, v.s, v.c, v.l, v.i, v.o, v.h, v.f, v.t, .string (bs F.name), .int .i64 F.params, .int .i64 F.regs, .int .i64 F.result, .slice A9 F.code.length c9, .int .i64 n] 72)).alloc (.cells #[.int .i64 O.kind, .int .i64 O.a, .int .i64 O.b, .int .i64 O.c, .int .i64 O.d, .int .i64 O.e, .int .i64 O.f, .int .i64 O.k, .slice A10 O.args.length c10, .int .i64 O.next, .int .i64 O.els, .int .i64 O.pl] 42) := ⟨_, rfl⟩
  have hxb : Below w.heap.size w X := by rw [hX]; exact ((Below.refl _ w).alloc (Nat.le_refl _) _).alloc (by simp) _
  have hx1 : BdBlk X w.heap.size v F (.slice A9 F.code.length c9) n := by rw [hX]; exact (Below.heap_alloc _ _ _ (by simp)).trans (heap_alloc_new w _)
  have hx2 : OpBlk X (w.heap.size + 1) O (.slice A10 O.args.length c10) := by
    have := heap_alloc_new (w.alloc (.cells #[v.g, v.s, v.c, v.l, v.i, v.o, v.h, v.f, v.t, .string (bs F.name), .int .i64 F.params, .int .i64 F.regs, .int .i64 F.result, .slice A9 F.code.length c9, .int .i64 n] 72)) (.cells #[.int .i64 O.kind, .int .i64 O.a, .int .i64 O.b, .int .i64 O.c, .int .i64 O.d, .int .i64 O.e, .int .i64 O.f, .int .i64 O.k, .slice A10 O.args.length c10, .int .i64 O.next, .int .i64 O.els, .int .i64 O.pl] 42)
    rw [asz] at this
    rw [hX]
    exact this
  have hxs : X.heap.size = w.heap.size + 2 := by rw [hX]; simp
  have hfl := hb.mo.f
  rw [e7] at hfl
  rw [← hn7] at e7 hl7 hfl
  rw [← hn9] at hl9 hX hx1 ⊢
  rw [← hn10] at hl10 hX hx2 ⊢
  have hrg := fnB_iff hb.fn
  have k7 : X.cell? ⟨w.heap.size, 7, none⟩ = some (.slice A7 n7 c7) := by rw [← e7]; exact hx1.cell 7
  have k11 : X.cell? ⟨w.heap.size, 11, none⟩ = some (.int .i64 F.regs) := hx1.cell 11
  obtain ⟨q0, q1, q2, q3, q4, q5, q6, q7, q8, q9, q10, q11⟩ := hx2.all
  have hfx : Lies KF X (· < w.heap.size) m.funcs (.slice A7 n7 c7) := hfl.keep (fun b hq => hxb.block b hq) (fun _ h => h)
  obtain ⟨i, hi0⟩ := Int.eq_ofNat_of_zero_le ha.1
  have hi : i < m.funcs.length := by omega
  have hi7 : i < n7 := by rw [hn7]; exact hi
  obtain ⟨b, off, uu, rfl, hbS, hat, -, -⟩ := hfx.fn i hi
  have r3 := hat.c3
  obtain ⟨rv, hrv⟩ : ∃ k, k = m.funcs[i].result := ⟨_, rfl⟩
  have hrr : 0 ≤ rv ∧ rv ≤ 2 := by have := fnB_iff (hb.at_ i hi); rw [hrv]; omega
  rw [← hrv] at r3
  have HW : Hid (resB m F O = if O.k = 0 then decide (O.b = -1) else decide (O.k = rv) && rg 0 (F.regs - O.k) O.b) := Lib.hid (by unfold resB calledB; rw [hi0, Int.toNat_natCast, List.getElem?_eq_getElem hi, hrv]; rfl)
  have C1 := Lib.hid (fun wx => wi_drew (w := wx) 0 (F.regs - O.k) O.b ho.b)
  rw [hi0] at q1 hX ⊢
  obtain ⟨kk, hkk⟩ : ∃ k, k = O.k := ⟨_, rfl⟩
  obtain ⟨bb, hbb⟩ : ∃ k, k = O.b := ⟨_, rfl⟩
  rw [← hkk] at q7 hX HW C1 ⊢
  rw [← hbb] at q2 hX HW C1 ⊢
  have HX := Lib.hid hX
  have HXB := Lib.hid hxb
  have HXS := Lib.hid hxs
  have HRG := Lib.hid hrg
  have HRR := Lib.hid hrr
  have hzI : (0 : Int) ≤ (i : Int) := by omega
  have hiI : (i : Int) < (n7 : Int) := by omega
  clear q0 q3 q4 q5 q6 q8 q9 q10 q11 hX hxb hx1 hx2 hxs hfl hb hz hS ho hn7 hn9 hn10 hkk hbb hrv e7 hfx hat hi hi0 ha hrg hrr
  by_cases h1 : kk = 0
  · subst h1
    have HV : Hid (resB m F O = decide (bb = -1)) := Lib.hid (by rw [HW.out]; simp)
    rw [HX.out] at q7 q2
    clear HW C1 k7 k11 r3
    go_enter Tryd.func64, Tryd.ntmps64
    go_wp2
    rw [← HX.out]
    go_ret
    exact ⟨rbool HV.out.symm, HXB.out⟩
  · have g1 : (kk != 0) = true := by simpa using h1
    by_cases h2 : kk = rv
    · subst h2
      have HV : Hid (resB m F O = rg 0 (F.regs - kk) bb) := Lib.hid (by rw [HW.out]; simp [h1])
      have x1 := IntWalk.i64_in (F.regs - kk) (by have := HRG.out; have := HRR.out; omega)
      clear HW
      go_enter Tryd.func64, Tryd.ntmps64
      rw [HX.out] at q7
      go_wp2
      rw [← HX.out] at q7 ⊢
      go_region_held3 (fun w' => w'.cell? ⟨w.heap.size, 7, none⟩ = some (.slice (some ⟨b, off, none⟩) n7 c7) ∧ w'.cell? ⟨w.heap.size, 11, none⟩ = some (.int .i64 F.regs) ∧ w'.cell? ⟨w.heap.size + 1, 1, none⟩ = some (.int .i64 (i : Int)) ∧ w'.cell? ⟨w.heap.size + 1, 2, none⟩ = some (.int .i64 bb) ∧ w'.cell? ⟨w.heap.size + 1, 7, none⟩ = some (.int .i64 kk) ∧ w'.cell? ⟨b, off + i * 5 + 3, none⟩ = some (.int .i64 kk)) (first | exact ⟨k7, k11, q1, q2, q7, r3⟩ | (with_reducible exact KK.out) | go_keep)
        ((go_at_call 43; refine (C1.out _).mono ?_; rintro e w2 ⟨rfl, hb2⟩; have HB2 := Lib.hid hb2; have KK := Lib.hid (And.intro ((hb2.cell (p := ⟨w.heap.size, 7, none⟩) (by show w.heap.size < X.heap.size; have := HXS.out; omega)).trans k7) (And.intro ((hb2.cell (p := ⟨w.heap.size, 11, none⟩) (by show w.heap.size < X.heap.size; have := HXS.out; omega)).trans k11) (And.intro ((hb2.cell (p := ⟨w.heap.size + 1, 1, none⟩) (by show w.heap.size + 1 < X.heap.size; have := HXS.out; omega)).trans q1) (And.intro ((hb2.cell (p := ⟨w.heap.size + 1, 2, none⟩) (by show w.heap.size + 1 < X.heap.size; have := HXS.out; omega)).trans q2) (And.intro ((hb2.cell (p := ⟨w.heap.size + 1, 7, none⟩) (by show w.heap.size + 1 < X.heap.size; have := HXS.out; omega)).trans q7) ((hb2.cell (p := ⟨b, off + i * 5 + 3, none⟩) (by show b < X.heap.size; have := HXS.out; omega)).trans r3)))))); clear hb2))
      all_goals
        go_wp2
        go_ret
        exact ⟨rbool HV.out.symm, HXB.out.trans (HB2.out.mono (by have := HXS.out; omega))⟩
    · have HV : Hid (resB m F O = false) := Lib.hid (by rw [HW.out]; simp [h1, h2])
      clear HW
      go_enter Tryd.func64, Tryd.ntmps64
      rw [HX.out] at q7
      go_wp2
      rw [← HX.out] at q7 ⊢
      go_quiet (fail)
      generalize hwq : X.drewN _ = wq
      have hdq : Below w.heap.size w wq := HXB.out.trans (Drawn.below ⟨_, hwq.symm⟩)
      have HBQ := Lib.hid hdq
      clear hwq hdq
      go_wp2
      go_ret
      exact ⟨rbool HV.out.symm, HBQ.out⟩

end Go.Proofs.YtgohnlcgidmlfaaDoor
