/- Package code: is an operation right, and are all of them? -/
import Derived.Test.YtgohnlcgidmlfaaDoorMej
set_option linter.unusedVariables false
set_option linter.unusedSimpArgs false
namespace Go.Proofs.YtgohnlcgidmlfaaDoor
open Go.RowKit

def opB (m : Mo) (F : Fn) (n : Int) (O : Opx) : Bool := fieldsB m F n O && argsB m F O && waysB F O
theorem fields_any {w : World} {m : Mo} {v : Vm} {F : Fn} {u z : Value} {n : Int} {O : Opx} {S : Nat → Prop} (hb : BdOk w m v F u n) (hz : Lies KI w S O.args z) (hS : ∀ b, S b → b < w.heap.size) (ho : O.In) :
    Calls Tryd.prog 58 #[.agg #[v.g, v.s, v.c, v.l, v.i, v.o, v.h, v.f, v.t, .string (bs F.name), .int .i64 F.params, .int .i64 F.regs, .int .i64 F.result, u, .int .i64 n], .agg #[.int .i64 O.kind, .int .i64 O.a, .int .i64 O.b, .int .i64 O.c, .int .i64 O.d, .int .i64 O.e, .int .i64 O.f, .int .i64 O.k, z, .int .i64 O.next, .int .i64 O.els, .int .i64 O.pl]] w fun e w' => e = .returned (.bool (fieldsB m F n O)) ∧ Below w.heap.size w w' := by
  by_cases hk : O.kind = 22
  · exact fields_call hb hz hS ho hk
  · exact fields_other hb hz hS ho hk
theorem fieldsB_call {m : Mo} {F : Fn} {n : Int} {O : Opx} (h : fieldsB m F n O = true) (hk : O.kind = 22) : 0 ≤ O.a ∧ O.a < (m.funcs.length : Int) := by
  unfold fieldsB at h
  rw [if_pos hk] at h
  simp only [Bool.and_eq_true] at h
  have := rg_iff.1 h.1.1
  omega

set_option maxHeartbeats 4000000 in
set_option maxRecDepth 100000 in
theorem opRight_any {w : World} {m : Mo} {v : Vm} {F : Fn} {u z : Value} {n : Int} {O : Opx} {S : Nat → Prop} (hb : BdOk w m v F u n) (hz : Lies KI w S O.args z) (hS : ∀ b, S b → b < w.heap.size) (ho : O.In) :
    Calls Tryd.prog 49 #[.agg #[v.g, v.s, v.c, v.l, v.i, v.o, v.h, v.f, v.t, .string (bs F.name), .int .i64 F.params, .int .i64 F.regs, .int .i64 F.result, u, .int .i64 n], .agg #[.int .i64 O.kind, .int .i64 O.a, .int .i64 O.b, .int .i64 O.c, .int .i64 O.d, .int .i64 O.e, .int .i64 O.f, .int .i64 O.k, z, .int .i64 O.next, .int .i64 O.els, .int .i64 O.pl]] w fun e w' => e = .returned (.bool (opB m F n O)) ∧ Below w.heap.size w w' := by
  have hg1 : ∀ wx, Below w.heap.size w wx → Calls Tryd.prog 58 #[.agg #[v.g, v.s, v.c, v.l, v.i, v.o, v.h, v.f, v.t, .string (bs F.name), .int .i64 F.params, .int .i64 F.regs, .int .i64 F.result, u, .int .i64 n], .agg #[.int .i64 O.kind, .int .i64 O.a, .int .i64 O.b, .int .i64 O.c, .int .i64 O.d, .int .i64 O.e, .int .i64 O.f, .int .i64 O.k, z, .int .i64 O.next, .int .i64 O.els, .int .i64 O.pl]] wx fun e w' => e = .returned (.bool (fieldsB m F n O)) ∧ Below wx.heap.size wx w' := fun wx hbx => fields_any (hb.grow hbx) (hz.keep (w' := wx) (fun b hq => hbx.block b (hS b hq)) (fun _ h => h)) (fun b hq => Nat.lt_of_lt_of_le (hS b hq) hbx.size) ho
  have hg2 : fieldsB m F n O = true → ∀ wx, Below w.heap.size w wx → Calls Tryd.prog 59 #[.agg #[v.g, v.s, v.c, v.l, v.i, v.o, v.h, v.f, v.t, .string (bs F.name), .int .i64 F.params, .int .i64 F.regs, .int .i64 F.result, u, .int .i64 n], .agg #[.int .i64 O.kind, .int .i64 O.a, .int .i64 O.b, .int .i64 O.c, .int .i64 O.d, .int .i64 O.e, .int .i64 O.f, .int .i64 O.k, z, .int .i64 O.next, .int .i64 O.els, .int .i64 O.pl]] wx fun e w' => e = .returned (.bool (argsB m F O)) ∧ Below wx.heap.size wx w' := fun hf wx hbx => argsRight_any (hb.grow hbx) (hz.keep (w' := wx) (fun b hq => hbx.block b (hS b hq)) (fun _ h => h)) (fun b hq => Nat.lt_of_lt_of_le (hS b hq) hbx.size) ho (fun hk => fieldsB_call hf hk)
  have hg3 : ∀ wx, Below w.heap.size w wx → Calls Tryd.prog 60 #[.agg #[v.g, v.s, v.c, v.l, v.i, v.o, v.h, v.f, v.t, .string (bs F.name), .int .i64 F.params, .int .i64 F.regs, .int .i64 F.result, u, .int .i64 n], .agg #[.int .i64 O.kind, .int .i64 O.a, .int .i64 O.b, .int .i64 O.c, .int .i64 O.d, .int .i64 O.e, .int .i64 O.f, .int .i64 O.k, z, .int .i64 O.next, .int .i64 O.els, .int .i64 O.pl]] wx fun e w' => e = .returned (.bool (waysB F O)) ∧ Below wx.heap.size wx w' := fun wx hbx => waysRight_any (hb.grow hbx) (hz.keep (w' := wx) (fun b hq => hbx.block b (hS b hq)) (fun _ h => h)) (fun b hq => Nat.lt_of_lt_of_le (hS b hq) hbx.size) ho
  obtain ⟨A7, c7, e7, -, hl7⟩ := hb.mo.f.form
  obtain ⟨A9, c9, rfl, -, hl9⟩ := hb.code.form
  obtain ⟨A10, c10, rfl, -, hl10⟩ := hz.form
  obtain ⟨n7, hn7⟩ : ∃ n, n = m.funcs.length := ⟨_, rfl⟩
  obtain ⟨n9, hn9⟩ : ∃ n, n = F.code.length := ⟨_, rfl⟩
  obtain ⟨n10, hn10⟩ : ∃ n, n = O.args.length := ⟨_, rfl⟩
  obtain ⟨X, hX⟩ : ∃ X : World, X = (w.alloc (.cells #[v.g, v.s, v.c, v.l, v.i, v.o, v.h, v.f, v.t, .string (bs F.name), .int .i64 F.params, .int .i64 F.regs, .int .i64 F.result, .slice A9 F.code.length c9, .int .i64 n] 72)).alloc (.cells #[.int .i64 O.kind, .int .i64 O.a, .int .i64 O.b, .int .i64 O.c, .int .i64 O.d, .int .i64 O.e, .int .i64 O.f, .int .i64 O.k, .slice A10 O.args.length c10, .int .i64 O.next, .int .i64 O.els, .int .i64 O.pl] 42) := ⟨_, rfl⟩
  have hxb : Below w.heap.size w X := by rw [hX]; exact ((Below.refl _ w).alloc (Nat.le_refl _) _).alloc (by simp) _
  have hx1 : BdBlk X w.heap.size v F (.slice A9 F.code.length c9) n := by rw [hX]; exact (Below.heap_alloc _ _ _ (by simp)).trans (heap_alloc_new w _)
  have hx2 : OpBlk X (w.heap.size + 1) O (.slice A10 O.args.length c10) := by
    have := heap_alloc_new (w.alloc (.cells #[v.g, v.s, v.c, v.l, v.i, v.o, v.h, v.f, v.t, .string (bs F.name), .int .i64 F.params, .int .i64 F.regs, .int .i64 F.result, .slice A9 F.code.length c9, .int .i64 n] 72)) (.cells #[.int .i64 O.kind, .int .i64 O.a, .int .i64 O.b, .int .i64 O.c, .int .i64 O.d, .int .i64 O.e, .int .i64 O.f, .int .i64 O.k, .slice A10 O.args.length c10, .int .i64 O.next, .int .i64 O.els, .int .i64 O.pl] 42)
    rw [asz] at this
    rw [hX]
    exact this
  have hxs : X.heap.size = w.heap.size + 2 := by rw [hX]; simp
  have hfl := hb.mo.f
  rw [e7] at hfl
  rw [← hn7] at e7 hl7 hfl
  rw [← hn9] at hl9 hX hx1 ⊢
  rw [← hn10] at hl10 hX hx2 ⊢
  rw [← hn9, ← hn10] at hg1 hg2 hg3
  have CB := Lib.hid (fun wx (hbx : Below X.heap.size X wx) => show wx.cell? ⟨w.heap.size, 0, none⟩ = some (v.g) ∧ wx.cell? ⟨w.heap.size, 1, none⟩ = some (v.s) ∧ wx.cell? ⟨w.heap.size, 2, none⟩ = some (v.c) ∧ wx.cell? ⟨w.heap.size, 3, none⟩ = some (v.l) ∧ wx.cell? ⟨w.heap.size, 4, none⟩ = some (v.i) ∧ wx.cell? ⟨w.heap.size, 5, none⟩ = some (v.o) ∧ wx.cell? ⟨w.heap.size, 6, none⟩ = some (v.h) ∧ wx.cell? ⟨w.heap.size, 7, none⟩ = some (v.f) ∧ wx.cell? ⟨w.heap.size, 8, none⟩ = some (v.t) ∧ wx.cell? ⟨w.heap.size, 9, none⟩ = some (.string (bs F.name)) ∧ wx.cell? ⟨w.heap.size, 10, none⟩ = some (.int .i64 F.params) ∧ wx.cell? ⟨w.heap.size, 11, none⟩ = some (.int .i64 F.regs) ∧ wx.cell? ⟨w.heap.size, 12, none⟩ = some (.int .i64 F.result) ∧ wx.cell? ⟨w.heap.size, 13, none⟩ = some (.slice A9 n9 c9) ∧ wx.cell? ⟨w.heap.size, 14, none⟩ = some (.int .i64 n) from by
    have hc := hx1.below hbx (by omega)
    exact ⟨hc.cell 0, hc.cell 1, hc.cell 2, hc.cell 3, hc.cell 4, hc.cell 5, hc.cell 6, hc.cell 7, hc.cell 8, hc.cell 9, hc.cell 10, hc.cell 11, hc.cell 12, hc.cell 13, hc.cell 14⟩)
  have CO := Lib.hid (fun wx (hbx : Below X.heap.size X wx) => (hx2.below hbx (by omega)).all)
  obtain ⟨b0, hb0⟩ : ∃ b, b = fieldsB m F n O := ⟨_, rfl⟩
  obtain ⟨b1, hb1⟩ : ∃ b, b = argsB m F O := ⟨_, rfl⟩
  obtain ⟨b2, hb2⟩ : ∃ b, b = waysB F O := ⟨_, rfl⟩
  have hF : opB m F n O = (b0 && b1 && b2) := by rw [hb0, hb1, hb2]; rfl
  rw [← hb0] at hg1 hg2
  rw [← hb1] at hg2
  rw [← hb2] at hg3
  have C1 := Lib.hid (hg1 X hxb)
  have C2 := Lib.hid hg2
  have C3 := Lib.hid hg3
  have HX := Lib.hid hX
  have HXB := Lib.hid hxb
  have HXS := Lib.hid hxs
  have HF := Lib.hid hF
  clear hX hxb hx1 hx2 hxs hfl hb hz hS ho hn7 hn9 hn10 hF hg1 hg2 hg3 e7 hb0 hb1 hb2
  go_enter Tryd.func49, Tryd.ntmps49
  go_wp2_with fail
  rw [← HX.out]
  with_reducible refine C1.out.mono ?_
  rintro e w1 ⟨rfl, h1⟩
  have HB1 := Lib.hid h1
  have HE1 := Lib.hid (HXB.out.trans (h1.mono (by have := HXS.out; omega)))
  obtain ⟨p0, p1, p2, p3, p4, p5, p6, p7, p8, p9, p10, p11⟩ := CO.out w1 h1
  obtain ⟨s0, s1, s2, s3, s4, s5, s6, s7, s8, s9, s10, s11, s12, s13, s14⟩ := CB.out w1 h1
  clear h1 C1
  cases b0 with
  | false =>
    clear CO CB C2 C3
    go_wp2
    go_ret
    exact ⟨rbool (by rw [HF.out]; simp), HE1.out⟩
  | true =>
    have CC2 := Lib.hid (C2.out (by first | rfl | trivial) w1 HE1.out)
    clear C2
    go_wp2_with fail
    with_reducible refine CC2.out.mono ?_
    rintro e w2 ⟨rfl, h2⟩
    have h2 := HB1.out.trans (h2.mono HB1.out.size)
    have HE2 := Lib.hid (HXB.out.trans (h2.mono (by have := HXS.out; omega)))
    clear p0 p1 p2 p3 p4 p5 p6 p7 p8 p9 p10 p11 s0 s1 s2 s3 s4 s5 s6 s7 s8 s9 s10 s11 s12 s13 s14 CC2
    obtain ⟨p0, p1, p2, p3, p4, p5, p6, p7, p8, p9, p10, p11⟩ := CO.out w2 h2
    obtain ⟨s0, s1, s2, s3, s4, s5, s6, s7, s8, s9, s10, s11, s12, s13, s14⟩ := CB.out w2 h2
    have CC3 := Lib.hid (C3.out w2 HE2.out)
    clear h2 CO CB C3
    cases b1 with
    | false =>
      go_wp2
      go_ret
      exact ⟨rbool (by rw [HF.out]; simp), HE2.out⟩
    | true =>
      go_wp2_with fail
      with_reducible refine CC3.out.mono ?_
      rintro e w3 ⟨rfl, h3⟩
      have HE3 := Lib.hid (HE2.out.trans (h3.mono HE2.out.size))
      clear h3 CC3
      go_wp2
      go_ret
      exact ⟨rbool (by rw [HF.out]; simp), HE3.out⟩

set_option maxHeartbeats 2000000 in
set_option maxRecDepth 100000 in
theorem ops1_any {w : World} {m : Mo} {v : Vm} {F : Fn} {u z : Value} {n : Int} {O : Opx} {S : Nat → Prop} (hb : BdOk w m v F u n) (hz : Lies KI w S O.args z) (hS : ∀ b, S b → b < w.heap.size) (ho : O.In) {g : Nat} (hg : BdBlk w g v F u n) :
    Calls Tryd.prog 48 #[.agg #[.int .i64 O.kind, .int .i64 O.a, .int .i64 O.b, .int .i64 O.c, .int .i64 O.d, .int .i64 O.e, .int .i64 O.f, .int .i64 O.k, z, .int .i64 O.next, .int .i64 O.els, .int .i64 O.pl], .pointer (some ⟨g, 0, none⟩)] w fun e w' => e = .returned (.bool (!opB m F n O)) ∧ Below w.heap.size w w' := by
  obtain ⟨A9, c9, rfl, -, hl9⟩ := hb.code.form
  obtain ⟨A10, c10, rfl, -, hl10⟩ := hz.form
  have hgs : g < w.heap.size := heap_lt hg
  obtain ⟨n9, hn9⟩ : ∃ n, n = F.code.length := ⟨_, rfl⟩
  obtain ⟨n10, hn10⟩ : ∃ n, n = O.args.length := ⟨_, rfl⟩
  have hc := fun wx (hbx : Below w.heap.size w wx) => opRight_any (hb.grow hbx) (hz.keep (w' := wx) (fun b hq => hbx.block b (hS b hq)) (fun _ h => h)) (fun b hq => Nat.lt_of_lt_of_le (hS b hq) hbx.size) ho
  rw [← hn9, ← hn10] at hc
  rw [← hn9] at hg
  rw [← hn10]
  have C1 := Lib.hid (hc _ ((Below.refl _ w).alloc (Nat.le_refl _) (.cells #[.int .i64 O.kind, .int .i64 O.a, .int .i64 O.b, .int .i64 O.c, .int .i64 O.d, .int .i64 O.e, .int .i64 O.f, .int .i64 O.k, .slice A10 n10 c10, .int .i64 O.next, .int .i64 O.els, .int .i64 O.pl] 42)))
  have HB := Lib.hid ((Below.refl w.heap.size w).alloc (Nat.le_refl _) (.cells #[.int .i64 O.kind, .int .i64 O.a, .int .i64 O.b, .int .i64 O.c, .int .i64 O.d, .int .i64 O.e, .int .i64 O.f, .int .i64 O.k, .slice A10 n10 c10, .int .i64 O.next, .int .i64 O.els, .int .i64 O.pl] 42))
  have s0 : w.cell? ⟨g, 0, none⟩ = some (v.g) := hg.cell 0
  have s1 : w.cell? ⟨g, 1, none⟩ = some (v.s) := hg.cell 1
  have s2 : w.cell? ⟨g, 2, none⟩ = some (v.c) := hg.cell 2
  have s3 : w.cell? ⟨g, 3, none⟩ = some (v.l) := hg.cell 3
  have s4 : w.cell? ⟨g, 4, none⟩ = some (v.i) := hg.cell 4
  have s5 : w.cell? ⟨g, 5, none⟩ = some (v.o) := hg.cell 5
  have s6 : w.cell? ⟨g, 6, none⟩ = some (v.h) := hg.cell 6
  have s7 : w.cell? ⟨g, 7, none⟩ = some (v.f) := hg.cell 7
  have s8 : w.cell? ⟨g, 8, none⟩ = some (v.t) := hg.cell 8
  have s9 : w.cell? ⟨g, 9, none⟩ = some (.string (bs F.name)) := hg.cell 9
  have s10 : w.cell? ⟨g, 10, none⟩ = some (.int .i64 F.params) := hg.cell 10
  have s11 : w.cell? ⟨g, 11, none⟩ = some (.int .i64 F.regs) := hg.cell 11
  have s12 : w.cell? ⟨g, 12, none⟩ = some (.int .i64 F.result) := hg.cell 12
  have s13 : w.cell? ⟨g, 13, none⟩ = some (.slice A9 n9 c9) := hg.cell 13
  have s14 : w.cell? ⟨g, 14, none⟩ = some (.int .i64 n) := hg.cell 14
  clear hc hg hb hz hS ho hn9 hn10
  go_enter Tryd.func48, Tryd.ntmps48
  go_wp2_with fail
  with_reducible refine C1.out.mono ?_
  rintro e w1 ⟨rfl, h1⟩
  have HE1 := Lib.hid (HB.out.trans (h1.mono HB.out.size))
  clear h1 C1
  go_wp2
  go_ret
  exact ⟨rfl, HE1.out⟩

end Go.Proofs.YtgohnlcgidmlfaaDoor
