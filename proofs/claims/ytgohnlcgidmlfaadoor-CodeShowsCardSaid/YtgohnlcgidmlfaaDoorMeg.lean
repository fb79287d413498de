/- Package code: where an operation stands; its result, its args, its ways. -/
import Derived.Test.YtgohnlcgidmlfaaDoorMef
import Derived.StillTailTactics
set_option linter.unusedVariables false
set_option linter.unusedSimpArgs false
namespace Go.Proofs.YtgohnlcgidmlfaaDoor
open Go.RowKit

/-- what is known of the place of an operation, when its turn comes -/
structure BdOk (w : World) (m : Mo) (v : Vm) (F : Fn) (u : Value) (n : Int) : Prop where
  mo : IsMo w (· < w.heap.size) m v
  code : Lies KO w (· < w.heap.size) F.code u
  fin : F.In
  fn : fnB F = true
  fns : m.funcs.all fnB = true
  words : 0 ≤ n ∧ n ≤ 32
theorem BdOk.grow {w w' : World} {m : Mo} {v : Vm} {F : Fn} {u : Value} {n : Int} (h : BdOk w m v F u n) (hb : Below w.heap.size w w') : BdOk w' m v F u n :=
  ⟨h.mo.grow hb, h.code.keep (fun b hq => hb.block b hq) (fun b hq => Nat.lt_of_lt_of_le hq hb.size), h.fin, h.fn, h.fns, h.words⟩
theorem fnB_iff {f : Fn} (h : fnB f = true) : 0 ≤ f.regs ∧ f.regs ≤ 1024 ∧ 0 ≤ f.params ∧ f.params ≤ f.regs ∧ 0 ≤ f.result ∧ f.result ≤ 2 ∧ f.code.length ≠ 0 := by
  unfold fnB at h
  simp only [Bool.and_eq_true, rg_iff, Bool.not_eq_true', decide_eq_false_iff_not] at h
  omega
theorem BdOk.at_ {w : World} {m : Mo} {v : Vm} {F : Fn} {u : Value} {n : Int} (h : BdOk w m v F u n) (k : Nat) (hk : k < m.funcs.length) : fnB m.funcs[k] = true := List.all_eq_true.1 h.fns _ (List.getElem_mem hk)
/-- the function that a call calls -/
def calledB (m : Mo) (a : Int) : Option Fn := m.funcs[a.toNat]?
def resB (m : Mo) (F : Fn) (O : Opx) : Bool := if O.k = 0 then decide (O.b = -1) else decide (O.k = ((calledB m O.a).map (·.result)).getD 0) && rg 0 (F.regs - O.k) O.b
def countB (m : Mo) (F : Fn) (O : Opx) : Int := if O.kind = 22 then ((calledB m O.a).map (·.params)).getD 0 else if O.kind = 23 then F.result else 0
def argsB (m : Mo) (F : Fn) (O : Opx) : Bool := decide ((O.args.length : Int) = countB m F O) && wi 0 (F.regs - 1) O.args
def waysB (F : Fn) (O : Opx) : Bool := if O.kind = 23 then rg 0 0 O.next && rg 0 0 O.els else if O.kind = 21 then rg 0 ((F.code.length : Int) - 1) O.next && rg 0 ((F.code.length : Int) - 1) O.els else rg 0 ((F.code.length : Int) - 1) O.next && decide (O.els = 0)

set_option maxHeartbeats 4000000 in
set_option maxRecDepth 100000 in
theorem waysRight_any {w : World} {m : Mo} {v : Vm} {F : Fn} {u z : Value} {n : Int} {O : Opx} {S : Nat → Prop} (hb : BdOk w m v F u n) (hz : Lies KI w S O.args z) (hS : ∀ b, S b → b < w.heap.size) (ho : O.In) :
    Calls Tryd.prog 60 #[.agg #[v.g, v.s, v.c, v.l, v.i, v.o, v.h, v.f, v.t, .string (bs F.name), .int .i64 F.params, .int .i64 F.regs, .int .i64 F.result, u, .int .i64 n], .agg #[.int .i64 O.kind, .int .i64 O.a, .int .i64 O.b, .int .i64 O.c, .int .i64 O.d, .int .i64 O.e, .int .i64 O.f, .int .i64 O.k, z, .int .i64 O.next, .int .i64 O.els, .int .i64 O.pl]] w fun e w' => e = .returned (.bool (waysB F O)) ∧ Below w.heap.size w w' := by
  obtain ⟨A7, c7, e7, -, hl7⟩ := hb.mo.f.form
  obtain ⟨A9, c9, rfl, -, hl9⟩ := hb.code.form
  obtain ⟨A10, c10, rfl, -, hl10⟩ := hz.form
  obtain ⟨n7, hn7⟩ : ∃ n, n = m.funcs.length := ⟨_, rfl⟩
  obtain ⟨n9, hn9⟩ : ∃ n, n = F.code.length := ⟨_, rfl⟩
  obtain ⟨n10, hn10⟩ : ∃ n, n = O.args.length := ⟨_, rfl⟩
  obtain ⟨X, hX⟩ : ∃ X : World, X = (w.alloc (.cells #[v.g, v.s, v.c, v.l, v.i, v.o, v.h, v.f, v.t, .string (bs F.name), .int .i64 F.params, .int .i64 F.regs, .int .i64 F.result, .slice A9 F.code.length c9, .int .i64 n] 72)).alloc (.cells #[.int .i64 O.kind, .int .i64 O.a, .int .i64 O.b, .int .i64 O.c, .int .i64 O.d, .int .i64 O.e, .int .i64 O.f, .int .i64 O.k, .slice A10 O.args.length c10, .int .i64 O.next, .int .i64 O.els, .int .i64 O.pl] 42) := ⟨_, rfl⟩
  have hxb : Below w.heap.size w X := by rw [hX]; exact ((Below.refl _ w).alloc (Nat.le_refl _) _).alloc (by simp) _
  have hx1 : BdBlk X w.heap.size v F (.slice A9 F.code.length c9) n := by rw [hX]; exact (Below.heap_alloc _ _ _ (by simp)).trans (heap_alloc_new w _)
  have hx2 : OpBlk X (w.heap.size + 1) O (.slice A10 O.args.length c10) := by
    have := heap_alloc_new (w.alloc (.cells #[v.g, v.s, v.c, v.l, v.i, v.o, v.h, v.f, v.t, .string (bs F.name), .int .i64 F.params, .int .i64 F.regs, .int .i64 F.result, .slice A9 F.code.length c9, .int .i64 n] 72)) (.cells #[.int .i64 O.kind, .int .i64 O.a, .int .i64 O.b, .int .i64 O.c, .int .i64 O.d, .int .i64 O.e, .int .i64 O.f, .int .i64 O.k, .slice A10 O.args.length c10, .int .i64 O.next, .int .i64 O.els, .int .i64 O.pl] 42)
    rw [asz] at this
    rw [hX]
    exact this
  have hxs : X.heap.size = w.heap.size + 2 := by rw [hX]; simp
  have hfl := hb.mo.f
  rw [e7] at hfl
  rw [← hn7] at e7 hl7 hfl
  rw [← hn9] at hl9 hX hx1 ⊢
  rw [← hn10] at hl10 hX hx2 ⊢
  have k13 : X.cell? ⟨w.heap.size, 13, none⟩ = some (.slice A9 n9 c9) := hx1.cell 13
  have hne := (fnB_iff hb.fn).2.2.2.2.2.2
  rw [← hn9] at hne
  obtain ⟨q0, q1, q2, q3, q4, q5, q6, q7, q8, q9, q10, q11⟩ := hx2.all
  have C1 := Lib.hid (wi_two (w := X) 0 0 O.next O.els ho.next ho.els)
  have C2 := Lib.hid (wi_two (w := X) 0 ((n9 : Int) - 1) O.next O.els ho.next ho.els)
  have C3 := Lib.hid (wi_one (w := X) 0 ((n9 : Int) - 1) O.next ho.next)
  have hcl : ∀ wx, Below X.heap.size X wx → wx.cell? ⟨w.heap.size + 1, 10, none⟩ = some (.int .i64 O.els) := fun wx hb => (hx2.below hb (by omega)).all.2.2.2.2.2.2.2.2.2.2.1
  have x1 := IntWalk.i64_in ((n9 : Int) - 1) (by omega)
  have HW : Hid (waysB F O = if O.kind = 23 then rg 0 0 O.next && rg 0 0 O.els else if O.kind = 21 then rg 0 ((n9 : Int) - 1) O.next && rg 0 ((n9 : Int) - 1) O.els else rg 0 ((n9 : Int) - 1) O.next && decide (O.els = 0)) := Lib.hid (by rw [hn9]; rfl)
  obtain ⟨kd, hkd⟩ : ∃ k, k = O.kind := ⟨_, rfl⟩
  rw [← hkd] at q0 HW hX ⊢
  obtain ⟨nx, hnx⟩ : ∃ k, k = O.next := ⟨_, rfl⟩
  obtain ⟨el, hel⟩ : ∃ k, k = O.els := ⟨_, rfl⟩
  rw [← hnx] at q9 HW hX C1 C2 C3 ⊢
  rw [← hel] at q10 HW hX hcl C1 C2 ⊢
  have HCL := Lib.hid hcl
  have HX := Lib.hid hX
  have HXB := Lib.hid hxb
  have HXS := Lib.hid hxs
  rw [hX] at k13 q0 q9 q10
  rw [hxs] at C1 C2 C3
  clear q1 q2 q3 q4 q5 q6 q7 q8 q11 hX hxb hx1 hx2 hxs hfl hl7 hl10 hb hz hS ho hn7 hn9 hn10 hcl hkd hnx hel e7
  by_cases h1 : kd = 23
  · subst h1
    have HV : Hid (waysB F O = (rg 0 0 nx && rg 0 0 el)) := Lib.hid (by rw [HW.out]; simp)
    clear HW C2 C3
    go_enter Tryd.func60, Tryd.ntmps60
    go_wp2_with fail
    rw [← HX.out]
    refine C1.out.mono ?_
    rintro e w2 ⟨rfl, hb2⟩
    have HB2 := Lib.hid (HXB.out.trans (hb2.mono (by have := HXS.out; omega)))
    clear hb2 k13 q0 q9 q10
    go_wp2
    go_ret
    exact ⟨rbool HV.out.symm, HB2.out⟩
  · have g1 : (kd != 23) = true := by simpa using h1
    by_cases h2 : kd = 21
    · subst h2
      have HV : Hid (waysB F O = (rg 0 ((n9 : Int) - 1) nx && rg 0 ((n9 : Int) - 1) el)) := Lib.hid (by rw [HW.out]; simp)
      clear HW C1 C3
      go_enter Tryd.func60, Tryd.ntmps60
      go_wp2_with fail
      rw [← HX.out]
      refine C2.out.mono ?_
      rintro e w2 ⟨rfl, hb2⟩
      have HB2 := Lib.hid (HXB.out.trans (hb2.mono (by have := HXS.out; omega)))
      clear hb2 k13 q0 q9 q10
      go_wp2
      go_ret
      exact ⟨rbool HV.out.symm, HB2.out⟩
    · have g2 : (kd != 21) = true := by simpa using h2
      obtain ⟨q, hq⟩ : ∃ q, q = rg 0 ((n9 : Int) - 1) nx := ⟨_, rfl⟩
      rw [← hq] at C3
      have HV : Hid (waysB F O = (q && decide (el = 0))) := Lib.hid (by rw [HW.out, hq]; simp [h1, h2])
      clear HW C1 C2 hq
      go_enter Tryd.func60, Tryd.ntmps60
      go_wp2_with fail
      rw [← HX.out]
      refine C3.out.mono ?_
      rintro e w2 ⟨rfl, hb2⟩
      rw [← HXS.out] at hb2
      have HB2 := Lib.hid (HXB.out.trans (hb2.mono (by have := HXS.out; omega)))
      have l10 := HCL.out w2 hb2
      clear hb2 k13 q0 q9 q10
      cases q with
      | false =>
        go_wp2
        go_ret
        exact ⟨rbool (by rw [HV.out]; by_cases h : el = 0 <;> simp [h]), HB2.out⟩
      | true =>
        go_wp2
        go_ret
        exact ⟨rbool (by rw [HV.out]; by_cases h : el = 0 <;> simp [h]), HB2.out⟩

set_option maxHeartbeats 4000000 in
set_option maxRecDepth 100000 in
theorem argsRight_any {w : World} {m : Mo} {v : Vm} {F : Fn} {u z : Value} {n : Int} {O : Opx} {S : Nat → Prop} (hb : BdOk w m v F u n) (hz : Lies KI w S O.args z) (hS : ∀ b, S b → b < w.heap.size) (ho : O.In) (ha : O.kind = 22 → 0 ≤ O.a ∧ O.a < (m.funcs.length : Int)) :
    Calls Tryd.prog 59 #[.agg #[v.g, v.s, v.c, v.l, v.i, v.o, v.h, v.f, v.t, .string (bs F.name), .int .i64 F.params, .int .i64 F.regs, .int .i64 F.result, u, .int .i64 n], .agg #[.int .i64 O.kind, .int .i64 O.a, .int .i64 O.b, .int .i64 O.c, .int .i64 O.d, .int .i64 O.e, .int .i64 O.f, .int .i64 O.k, z, .int .i64 O.next, .int .i64 O.els, .int .i64 O.pl]] w fun e w' => e = .returned (.bool (argsB m F O)) ∧ Below w.heap.size w w' := by
  obtain ⟨A7, c7, e7, -, hl7⟩ := hb.mo.f.form
  obtain ⟨A9, c9, rfl, -, hl9⟩ := hb.code.form
  obtain ⟨A10, c10, rfl, -, hl10⟩ := hz.form
  obtain ⟨n7, hn7⟩ : ∃ n, n = m.funcs.length := ⟨_, rfl⟩
  obtain ⟨n9, hn9⟩ : ∃ n, n = F.code.length := ⟨_, rfl⟩
  obtain ⟨n10, hn10⟩ : ∃ n, n = O.args.length := ⟨_, rfl⟩
  obtain ⟨X, hX⟩ : ∃ X : World, X = (w.alloc (.cells #[v.g, v.s, v.c, v.l, v.i, v.o, v.h, v.f, v.t, .string (bs F.name), .int .i64 F.params, .int .i64 F.regs, .int .i64 F.result, .slice A9 F.code.length c9, .int .i64 n] 72)).alloc (.cells #[.int .i64 O.kind, .int .i64 O.a, .int .i64 O.b, .int .i64 O.c, .int .i64 O.d, .int .i64 O.e, .int .i64 O.f, .int .i64 O.k, .slice A10 O.args.length c10, .int .i64 O.next, .int .i64 O.els, .int .i64 O.pl] 42) := ⟨_, rfl⟩
  have hxb : Below w.heap.size w X := by rw [hX]; exact ((Below.refl _ w).alloc (Nat.le_refl _) _).alloc (by simp) _
  have hx1 : BdBlk X w.heap.size v F (.slice A9 F.code.length c9) n := by rw [hX]; exact (Below.heap_alloc _ _ _ (by simp)).trans (heap_alloc_new w _)
  have hx2 : OpBlk X (w.heap.size + 1) O (.slice A10 O.args.length c10) := by
    have := heap_alloc_new (w.alloc (.cells #[v.g, v.s, v.c, v.l, v.i, v.o, v.h, v.f, v.t, .string (bs F.name), .int .i64 F.params, .int .i64 F.regs, .int .i64 F.result, .slice A9 F.code.length c9, .int .i64 n] 72)) (.cells #[.int .i64 O.kind, .int .i64 O.a, .int .i64 O.b, .int .i64 O.c, .int .i64 O.d, .int .i64 O.e, .int .i64 O.f, .int .i64 O.k, .slice A10 O.args.length c10, .int .i64 O.next, .int .i64 O.els, .int .i64 O.pl] 42)
    rw [asz] at this
    rw [hX]
    exact this
  have hxs : X.heap.size = w.heap.size + 2 := by rw [hX]; simp
  have hfl := hb.mo.f
  rw [e7] at hfl
  rw [← hn7] at e7 hl7 hfl
  rw [← hn9] at hl9 hX hx1 ⊢
  rw [← hn10] at hl10 hX hx2 ⊢
  have hrg := fnB_iff hb.fn
  have k7 : X.cell? ⟨w.heap.size, 7, none⟩ = some (.slice A7 n7 c7) := by rw [← e7]; exact hx1.cell 7
  have k11 : X.cell? ⟨w.heap.size, 11, none⟩ = some (.int .i64 F.regs) := hx1.cell 11
  have k12 : X.cell? ⟨w.heap.size, 12, none⟩ = some (.int .i64 F.result) := hx1.cell 12
  obtain ⟨q0, q1, q2, q3, q4, q5, q6, q7, q8, q9, q10, q11⟩ := hx2.all
  have hza := hz.keep (w' := X) (fun b hq => hxb.block b (hS b hq)) (fun _ h => h)
  rw [← hn10] at hza
  have C1 := Lib.hid (within_any hza (fun b hq => by have := hS b hq; omega) 0 (F.regs - 1))
  have x1 := IntWalk.i64_in (F.regs - 1) (by omega)
  have HW : Hid (argsB m F O = (decide ((n10 : Int) = countB m F O) && wi 0 (F.regs - 1) O.args)) := Lib.hid (by rw [hn10]; rfl)
  have hfx : Lies KF X (· < w.heap.size) m.funcs (.slice A7 n7 c7) := hfl.keep (fun b hq => hxb.block b hq) (fun _ h => h)
  obtain ⟨kd, hkd⟩ : ∃ k, k = O.kind := ⟨_, rfl⟩
  obtain ⟨cn, hcn⟩ : ∃ k, k = countB m F O := ⟨_, rfl⟩
  have HCN : Hid (cn = if kd = 22 then ((calledB m O.a).map (·.params)).getD 0 else if kd = 23 then F.result else 0) := Lib.hid (by rw [hcn, hkd]; rfl)
  obtain ⟨wv, hwv⟩ : ∃ k, k = wi 0 (F.regs - 1) O.args := ⟨_, rfl⟩
  rw [← hwv] at C1 HW
  rw [← hcn] at HW
  rw [← hkd] at q0 hX ha ⊢
  obtain ⟨ai, hai⟩ : ∃ k, k = O.a := ⟨_, rfl⟩
  rw [← hai] at q1 hX ha HCN ⊢
  have HX := Lib.hid hX
  have HXB := Lib.hid hxb
  have HXS := Lib.hid hxs
  have HFX := Lib.hid hfx
  have HN7 := Lib.hid hn7
  have HRG := Lib.hid hrg
  have HAB := Lib.hid ha
  rw [hX] at k7 k11 k12 q0 q1 q8
  clear q2 q3 q4 q5 q6 q7 q9 q10 q11 hX hxb hx1 hx2 hxs hfl hb hz hza hS ho hn7 hn9 hn10 hkd hai hcn hwv e7 hfx ha hrg
  by_cases h1 : kd = 22
  · subst h1
    have hb := HAB.out rfl
    obtain ⟨i, rfl⟩ := Int.eq_ofNat_of_zero_le hb.1
    have hi : i < m.funcs.length := by omega
    have hi7 : i < n7 := by rw [HN7.out]; exact hi
    obtain ⟨b, off, uu, rfl, hbS, hat, -, -⟩ := HFX.out.fn i hi
    have r1 := hat.c1
    have HCC : Hid (cn = m.funcs[i].params) := Lib.hid (by rw [HCN.out]; simp [calledB, hi])
    rw [← HCC.out] at r1
    rw [HX.out] at r1
    clear hat HCN HFX HCC hb HAB
    by_cases hc : (n10 : Int) = cn
    · have HV : Hid (argsB m F O = wv) := Lib.hid (by rw [HW.out]; simp [hc])
      clear HW
      go_enter Tryd.func59, Tryd.ntmps59
      go_wp2_with fail
      rw [← HX.out]
      refine C1.out.mono ?_
      rintro e w2 ⟨rfl, hb2⟩
      have HB2 := Lib.hid (HXB.out.trans (hb2.mono (by have := HXS.out; omega)))
      clear hb2 k7 k11 k12 q0 q1 q8 r1
      go_wp2
      go_ret
      exact ⟨rbool HV.out.symm, HB2.out⟩
    · have HV : Hid (argsB m F O = false) := Lib.hid (by rw [HW.out, decide_eq_false hc, Bool.false_and])
      clear HW C1
      go_enter Tryd.func59, Tryd.ntmps59
      go_wp2
      rw [← HX.out]
      go_ret
      exact ⟨rbool HV.out.symm, HXB.out⟩
  · have g1 : (kd != 22) = true := by simpa using h1
    clear HFX HAB
    by_cases h2 : kd = 23
    · subst h2
      have hcc : cn = F.result := by rw [HCN.out]; simp
      subst hcc
      clear HCN
      by_cases hc : (n10 : Int) = F.result
      · have HV : Hid (argsB m F O = wv) := Lib.hid (by rw [HW.out]; simp [hc])
        clear HW
        go_enter Tryd.func59, Tryd.ntmps59
        go_wp2_with fail
        rw [← HX.out]
        refine C1.out.mono ?_
        rintro e w2 ⟨rfl, hb2⟩
        have HB2 := Lib.hid (HXB.out.trans (hb2.mono (by have := HXS.out; omega)))
        clear hb2 k7 k11 k12 q0 q1 q8
        go_wp2
        go_ret
        exact ⟨rbool HV.out.symm, HB2.out⟩
      · have HV : Hid (argsB m F O = false) := Lib.hid (by rw [HW.out, decide_eq_false hc, Bool.false_and])
        clear HW C1
        go_enter Tryd.func59, Tryd.ntmps59
        go_wp2
        rw [← HX.out]
        go_ret
        exact ⟨rbool HV.out.symm, HXB.out⟩
    · have g2 : (kd != 23) = true := by simpa using h2
      have hcc : cn = 0 := by rw [HCN.out]; simp [h1, h2]
      subst hcc
      clear HCN
      by_cases hc : (n10 : Int) = 0
      · have HV : Hid (argsB m F O = wv) := Lib.hid (by rw [HW.out]; simp [hc])
        clear HW
        go_enter Tryd.func59, Tryd.ntmps59
        go_wp2_with fail
        rw [← HX.out]
        refine C1.out.mono ?_
        rintro e w2 ⟨rfl, hb2⟩
        have HB2 := Lib.hid (HXB.out.trans (hb2.mono (by have := HXS.out; omega)))
        clear hb2 k7 k11 k12 q0 q1 q8
        go_wp2
        go_ret
        exact ⟨rbool HV.out.symm, HB2.out⟩
      · have HV : Hid (argsB m F O = false) := Lib.hid (by rw [HW.out, decide_eq_false hc, Bool.false_and])
        clear HW C1
        go_enter Tryd.func59, Tryd.ntmps59
        go_wp2
        rw [← HX.out]
        go_ret
        exact ⟨rbool HV.out.symm, HXB.out⟩

end Go.Proofs.YtgohnlcgidmlfaaDoor
