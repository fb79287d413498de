/- Package code: are the fields of an operation right? -/
import Derived.Test.YtgohnlcgidmlfaaDoorMei
set_option linter.unusedVariables false
set_option linter.unusedSimpArgs false
namespace Go.Proofs.YtgohnlcgidmlfaaDoor
open Go.RowKit

theorem hiL_len (r wd ni nh ns nl nc no kd : Int) : (hiL r wd ni nh ns nl nc no kd).1.length = 6 := by
  unfold hiL
  simp only [apply_ite Prod.fst, apply_ite List.length, List.length_cons, List.length_nil, ite_self]
theorem hiL_six (r wd ni nh ns nl nc no kd : Int) : ∃ h0 h1 h2 h3 h4 h5, (hiL r wd ni nh ns nl nc no kd).1 = [h0, h1, h2, h3, h4, h5] := by
  have h := hiL_len r wd ni nh ns nl nc no kd
  generalize (hiL r wd ni nh ns nl nc no kd).1 = l at h ⊢
  match l, h with
  | [a, b, c, d, e, f], _ => exact ⟨a, b, c, d, e, f, rfl⟩
/-- known, and the first j fields within their bounds -/
def knJ (kn : Bool) (hs xs : List Int) (j : Nat) : Bool := kn && ((hs.zip xs).take j).all fun p => rg 0 p.1 p.2
theorem knJ_succ {kn : Bool} {hs xs : List Int} {j : Nat} {h x : Int} (hz : (hs.zip xs)[j]? = some (h, x)) : knJ kn hs xs (j + 1) = (knJ kn hs xs j && rg 0 h x) := by
  unfold knJ
  rw [List.take_add_one, hz, List.all_append]
  simp [Bool.and_assoc]
def fieldsB (m : Mo) (F : Fn) (n : Int) (O : Opx) : Bool :=
  if O.kind = 22 then rg 0 ((m.funcs.length : Int) - 1) O.a && (rg 0 0 O.c && rg 0 0 O.d && rg 0 0 O.e && rg 0 0 O.f) && resB m F O
  else if (O.kind = 10 ∨ O.kind = 15) ∧ O.a = O.b then false
  else knJ (hiM m F n O.kind).2 (hiM m F n O.kind).1 [O.a, O.b, O.c, O.d, O.e, O.f] 6 && kB O.kind O.k

set_option maxHeartbeats 1000000 in
set_option maxRecDepth 100000 in
theorem fields_call {w : World} {m : Mo} {v : Vm} {F : Fn} {u z : Value} {n : Int} {O : Opx} {S : Nat → Prop} (hb : BdOk w m v F u n) (hz : Lies KI w S O.args z) (hS : ∀ b, S b → b < w.heap.size) (ho : O.In) (hk : O.kind = 22) :
    Calls Tryd.prog 58 #[.agg #[v.g, v.s, v.c, v.l, v.i, v.o, v.h, v.f, v.t, .string (bs F.name), .int .i64 F.params, .int .i64 F.regs, .int .i64 F.result, u, .int .i64 n], .agg #[.int .i64 O.kind, .int .i64 O.a, .int .i64 O.b, .int .i64 O.c, .int .i64 O.d, .int .i64 O.e, .int .i64 O.f, .int .i64 O.k, z, .int .i64 O.next, .int .i64 O.els, .int .i64 O.pl]] w fun e w' => e = .returned (.bool (fieldsB m F n O)) ∧ Below w.heap.size w w' := by
  have hgrow : ∀ wx, Below w.heap.size w wx → (0 ≤ O.a ∧ O.a < (m.funcs.length : Int)) → Calls Tryd.prog 64 #[.agg #[v.g, v.s, v.c, v.l, v.i, v.o, v.h, v.f, v.t, .string (bs F.name), .int .i64 F.params, .int .i64 F.regs, .int .i64 F.result, u, .int .i64 n], .agg #[.int .i64 O.kind, .int .i64 O.a, .int .i64 O.b, .int .i64 O.c, .int .i64 O.d, .int .i64 O.e, .int .i64 O.f, .int .i64 O.k, z, .int .i64 O.next, .int .i64 O.els, .int .i64 O.pl]] wx fun e w' => e = .returned (.bool (resB m F O)) ∧ Below wx.heap.size wx w' := fun wx hbx ha => resultRight_any (hb.grow hbx) (hz.keep (w' := wx) (fun b hq => hbx.block b (hS b hq)) (fun _ h => h)) (fun b hq => Nat.lt_of_lt_of_le (hS b hq) hbx.size) ho ha
  obtain ⟨A7, c7, e7, -, hl7⟩ := hb.mo.f.form
  obtain ⟨A9, c9, rfl, -, hl9⟩ := hb.code.form
  obtain ⟨A10, c10, rfl, -, hl10⟩ := hz.form
  obtain ⟨n7, hn7⟩ : ∃ n, n = m.funcs.length := ⟨_, rfl⟩
  obtain ⟨n9, hn9⟩ : ∃ n, n = F.code.length := ⟨_, rfl⟩
  obtain ⟨n10, hn10⟩ : ∃ n, n = O.args.length := ⟨_, rfl⟩
  obtain ⟨X, hX⟩ : ∃ X : World, X = (w.alloc (.cells #[v.g, v.s, v.c, v.l, v.i, v.o, v.h, v.f, v.t, .string (bs F.name), .int .i64 F.params, .int .i64 F.regs, .int .i64 F.result, .slice A9 F.code.length c9, .int .i64 n] 72)).alloc (.cells #[.int .i64 O.kind, .int .i64 O.a, .int .i64 O.b, .int .i64 O.c, .int .i64 O.d, .int .i64 O.e, .int .i64 O.f, .int .i64 O.k, .slice A10 O.args.length c10, .int .i64 O.next, .int .i64 O.els, .int .i64 O.pl] 42) := ⟨_, rfl⟩
  have hxb : Below w.heap.size w X := by rw [hX]; exact ((Below.refl _ w).alloc (Nat.le_refl _) _).alloc (by simp) _
  have hx1 : BdBlk X w.heap.size v F (.slice A9 F.code.length c9) n := by rw [hX]; exact (Below.heap_alloc _ _ _ (by simp)).trans (heap_alloc_new w _)
  have hx2 : OpBlk X (w.heap.size + 1) O (.slice A10 O.args.length c10) := by
    have := heap_alloc_new (w.alloc (.cells #[v.g, v.s, v.c, v.l, v.i, v.o, v.h, v.f, v.t, .string (bs F.name), .int .i64 F.params, .int .i64 F.regs, .int .i64 F.result, .slice A9 F.code.length c9, .int .i64 n] 72)) (.cells #[.int .i64 O.kind, .int .i64 O.a, .int .i64 O.b, .int .i64 O.c, .int .i64 O.d, .int .i64 O.e, .int .i64 O.f, .int .i64 O.k, .slice A10 O.args.length c10, .int .i64 O.next, .int .i64 O.els, .int .i64 O.pl] 42)
    rw [asz] at this
    rw [hX]
    exact this
  have hxs : X.heap.size = w.heap.size + 2 := by rw [hX]; simp
  have hfl := hb.mo.f
  rw [e7] at hfl
  rw [← hn7] at e7 hl7 hfl
  rw [← hn9] at hl9 hX hx1 ⊢
  rw [← hn10] at hl10 hX hx2 ⊢
  rw [← hn9, ← hn10] at hgrow
  rw [e7] at hgrow
  rw [e7]
  have hkk := hk
  have k7 : X.cell? ⟨w.heap.size, 7, none⟩ = some (.slice A7 n7 c7) := by rw [← e7]; exact hx1.cell 7
  have CB : Hid (∀ wx, Below X.heap.size X wx → wx.cell? ⟨w.heap.size, 0, none⟩ = some (v.g) ∧ wx.cell? ⟨w.heap.size, 1, none⟩ = some (v.s) ∧ wx.cell? ⟨w.heap.size, 2, none⟩ = some (v.c) ∧ wx.cell? ⟨w.heap.size, 3, none⟩ = some (v.l) ∧ wx.cell? ⟨w.heap.size, 4, none⟩ = some (v.i) ∧ wx.cell? ⟨w.heap.size, 5, none⟩ = some (v.o) ∧ wx.cell? ⟨w.heap.size, 6, none⟩ = some (v.h) ∧ wx.cell? ⟨w.heap.size, 7, none⟩ = some (.slice A7 n7 c7) ∧ wx.cell? ⟨w.heap.size, 8, none⟩ = some (v.t) ∧ wx.cell? ⟨w.heap.size, 9, none⟩ = some (.string (bs F.name)) ∧ wx.cell? ⟨w.heap.size, 10, none⟩ = some (.int .i64 F.params) ∧ wx.cell? ⟨w.heap.size, 11, none⟩ = some (.int .i64 F.regs) ∧ wx.cell? ⟨w.heap.size, 12, none⟩ = some (.int .i64 F.result) ∧ wx.cell? ⟨w.heap.size, 13, none⟩ = some (.slice A9 n9 c9) ∧ wx.cell? ⟨w.heap.size, 14, none⟩ = some (.int .i64 n)) := Lib.hid fun wx hbx => by
    have hc := hx1.below hbx (by omega)
    exact ⟨hc.cell 0, hc.cell 1, hc.cell 2, hc.cell 3, hc.cell 4, hc.cell 5, hc.cell 6, by rw [← e7]; exact hc.cell 7, hc.cell 8, hc.cell 9, hc.cell 10, hc.cell 11, hc.cell 12, hc.cell 13, hc.cell 14⟩
  have CO := Lib.hid (fun wx (hbx : Below X.heap.size X wx) => (hx2.below hbx (by omega)).all)
  obtain ⟨q0, q1, -, -, -, -, -, -, -, -, -, -⟩ := hx2.all
  obtain ⟨r0, hr0⟩ : ∃ r, r = rg 0 ((n7 : Int) - 1) O.a := ⟨_, rfl⟩
  obtain ⟨r1, hr1⟩ : ∃ r, r = (rg 0 0 O.c && rg 0 0 O.d && rg 0 0 O.e && rg 0 0 O.f) := ⟨_, rfl⟩
  have hF : fieldsB m F n O = (r0 && r1 && resB m F O) := by unfold fieldsB; rw [if_pos hk, ← hn7, hr0, hr1]
  have C0 := Lib.hid (wi_one (w := X) 0 ((n7 : Int) - 1) O.a ho.a)
  have C1 := Lib.hid (fun wx => wi_four (w := wx) 0 0 O.c O.d O.e O.f ho.c ho.d ho.e ho.f)
  rw [← hr0] at C0
  rw [← hr1] at C1
  have x1 := IntWalk.i64_in ((n7 : Int) - 1) (by omega)
  have CR : Hid (r0 = true → ∀ wx, Below w.heap.size w wx → Calls Tryd.prog 64 _ wx _) := Lib.hid (fun hr wx hbx => hgrow wx hbx (by rw [hr0] at hr; have := rg_iff.1 hr; omega))
  have HX := Lib.hid hX
  have HXB := Lib.hid hxb
  have HXS := Lib.hid hxs
  have HF := Lib.hid hF
  have hX' := hX
  rw [e7] at hX'
  have HX' := Lib.hid hX'
  rw [hxs] at C0
  obtain ⟨rs, hrs⟩ : ∃ r, r = resB m F O := ⟨_, rfl⟩
  rw [← hrs] at CR HF
  rw [hX'] at k7 q0 q1
  rw [hk] at q0 HX' CR CO ⊢
  clear hX hX' hxb hx1 hx2 hxs hfl hb hz hS ho hn7 hn9 hn10 hr0 hr1 hF hgrow e7 hrs hk hkk HX
  go_enter Tryd.func58, Tryd.ntmps58
  go_wp2_with fail
  rw [← HX'.out]
  refine C0.out.mono ?_
  rintro e w1 ⟨rfl, hb1⟩
  rw [← HXS.out] at hb1
  have HB1 := Lib.hid hb1
  have HE1 := Lib.hid (HXB.out.trans (hb1.mono (by have := HXS.out; omega)))
  obtain ⟨p0, p1, p2, p3, p4, p5, p6, p7, p8, p9, p10, p11⟩ := CO.out w1 hb1
  clear hb1 C0 k7 q0 q1 x1
  cases r0 with
  | false =>
    clear CR C1 CO CB
    go_wp2
    go_ret
    exact ⟨rbool (by rw [HF.out]; simp), HE1.out⟩
  | true =>
    go_wp2_with fail
    with_reducible refine (C1.out w1).mono ?_
    rintro e w2 ⟨rfl, hb2⟩
    have hb2 := HB1.out.trans (hb2.mono HB1.out.size)
    have HE2 := Lib.hid (HXB.out.trans (hb2.mono (by have := HXS.out; omega)))
    clear p0 p1 p2 p3 p4 p5 p6 p7 p8 p9 p10 p11
    obtain ⟨p0, p1, p2, p3, p4, p5, p6, p7, p8, p9, p10, p11⟩ := CO.out w2 hb2
    obtain ⟨s0, s1, s2, s3, s4, s5, s6, s7, s8, s9, s10, s11, s12, s13, s14⟩ := CB.out w2 hb2
    have CRR := Lib.hid (CR.out (by first | rfl | trivial) w2 HE2.out)
    clear hb2 C1 CO CB CR
    cases r1 with
    | false =>
      go_wp2
      go_ret
      exact ⟨rbool (by rw [HF.out]; simp), HE2.out⟩
    | true =>
      go_wp2_with fail
      with_reducible refine CRR.out.mono ?_
      rintro e w3 ⟨rfl, hb3⟩
      have HE3 := Lib.hid (HE2.out.trans (hb3.mono HE2.out.size))
      clear hb3 CRR
      go_wp2
      go_ret
      exact ⟨rbool (by rw [HF.out]; simp), HE3.out⟩

set_option maxHeartbeats 1000000 in
set_option maxRecDepth 100000 in
theorem fields_other {w : World} {m : Mo} {v : Vm} {F : Fn} {u z : Value} {n : Int} {O : Opx} {S : Nat → Prop} (hb : BdOk w m v F u n) (hz : Lies KI w S O.args z) (hS : ∀ b, S b → b < w.heap.size) (ho : O.In) (hk : O.kind ≠ 22) :
    Calls Tryd.prog 58 #[.agg #[v.g, v.s, v.c, v.l, v.i, v.o, v.h, v.f, v.t, .string (bs F.name), .int .i64 F.params, .int .i64 F.regs, .int .i64 F.result, u, .int .i64 n], .agg #[.int .i64 O.kind, .int .i64 O.a, .int .i64 O.b, .int .i64 O.c, .int .i64 O.d, .int .i64 O.e, .int .i64 O.f, .int .i64 O.k, z, .int .i64 O.next, .int .i64 O.els, .int .i64 O.pl]] w fun e w' => e = .returned (.bool (fieldsB m F n O)) ∧ Below w.heap.size w w' := by
  have hgrow : ∀ wx, Below w.heap.size w wx → Calls Tryd.prog 65 #[.agg #[v.g, v.s, v.c, v.l, v.i, v.o, v.h, v.f, v.t, .string (bs F.name), .int .i64 F.params, .int .i64 F.regs, .int .i64 F.result, u, .int .i64 n], .int .i64 O.kind] wx fun e w' => e = .returned (hiV (hiM m F n O.kind)) ∧ Below wx.heap.size wx w' := fun wx hbx => highest_any (hb.grow hbx) O.kind
  obtain ⟨A7, c7, e7, -, hl7⟩ := hb.mo.f.form
  obtain ⟨A9, c9, rfl, -, hl9⟩ := hb.code.form
  obtain ⟨A10, c10, rfl, -, hl10⟩ := hz.form
  obtain ⟨n7, hn7⟩ : ∃ n, n = m.funcs.length := ⟨_, rfl⟩
  obtain ⟨n9, hn9⟩ : ∃ n, n = F.code.length := ⟨_, rfl⟩
  obtain ⟨n10, hn10⟩ : ∃ n, n = O.args.length := ⟨_, rfl⟩
  obtain ⟨X, hX⟩ : ∃ X : World, X = (w.alloc (.cells #[v.g, v.s, v.c, v.l, v.i, v.o, v.h, v.f, v.t, .string (bs F.name), .int .i64 F.params, .int .i64 F.regs, .int .i64 F.result, .slice A9 F.code.length c9, .int .i64 n] 72)).alloc (.cells #[.int .i64 O.kind, .int .i64 O.a, .int .i64 O.b, .int .i64 O.c, .int .i64 O.d, .int .i64 O.e, .int .i64 O.f, .int .i64 O.k, .slice A10 O.args.length c10, .int .i64 O.next, .int .i64 O.els, .int .i64 O.pl] 42) := ⟨_, rfl⟩
  have hxb : Below w.heap.size w X := by rw [hX]; exact ((Below.refl _ w).alloc (Nat.le_refl _) _).alloc (by simp) _
  have hx1 : BdBlk X w.heap.size v F (.slice A9 F.code.length c9) n := by rw [hX]; exact (Below.heap_alloc _ _ _ (by simp)).trans (heap_alloc_new w _)
  have hx2 : OpBlk X (w.heap.size + 1) O (.slice A10 O.args.length c10) := by
    have := heap_alloc_new (w.alloc (.cells #[v.g, v.s, v.c, v.l, v.i, v.o, v.h, v.f, v.t, .string (bs F.name), .int .i64 F.params, .int .i64 F.regs, .int .i64 F.result, .slice A9 F.code.length c9, .int .i64 n] 72)) (.cells #[.int .i64 O.kind, .int .i64 O.a, .int .i64 O.b, .int .i64 O.c, .int .i64 O.d, .int .i64 O.e, .int .i64 O.f, .int .i64 O.k, .slice A10 O.args.length c10, .int .i64 O.next, .int .i64 O.els, .int .i64 O.pl] 42)
    rw [asz] at this
    rw [hX]
    exact this
  have hxs : X.heap.size = w.heap.size + 2 := by rw [hX]; simp
  have hfl := hb.mo.f
  rw [e7] at hfl
  rw [← hn7] at e7 hl7 hfl
  rw [← hn9] at hl9 hX hx1 ⊢
  rw [← hn10] at hl10 hX hx2 ⊢
  rw [← hn9] at hgrow
  have hcb : ∀ wx, Below X.heap.size X wx → wx.cell? ⟨w.heap.size, 0, none⟩ = some (v.g) ∧ wx.cell? ⟨w.heap.size, 1, none⟩ = some (v.s) ∧ wx.cell? ⟨w.heap.size, 2, none⟩ = some (v.c) ∧ wx.cell? ⟨w.heap.size, 3, none⟩ = some (v.l) ∧ wx.cell? ⟨w.heap.size, 4, none⟩ = some (v.i) ∧ wx.cell? ⟨w.heap.size, 5, none⟩ = some (v.o) ∧ wx.cell? ⟨w.heap.size, 6, none⟩ = some (v.h) ∧ wx.cell? ⟨w.heap.size, 7, none⟩ = some (v.f) ∧ wx.cell? ⟨w.heap.size, 8, none⟩ = some (v.t) ∧ wx.cell? ⟨w.heap.size, 9, none⟩ = some (.string (bs F.name)) ∧ wx.cell? ⟨w.heap.size, 10, none⟩ = some (.int .i64 F.params) ∧ wx.cell? ⟨w.heap.size, 11, none⟩ = some (.int .i64 F.regs) ∧ wx.cell? ⟨w.heap.size, 12, none⟩ = some (.int .i64 F.result) ∧ wx.cell? ⟨w.heap.size, 13, none⟩ = some (.slice A9 n9 c9) ∧ wx.cell? ⟨w.heap.size, 14, none⟩ = some (.int .i64 n) := fun wx hbx => by
    have hc := hx1.below hbx (by omega)
    exact ⟨hc.cell 0, hc.cell 1, hc.cell 2, hc.cell 3, hc.cell 4, hc.cell 5, hc.cell 6, hc.cell 7, hc.cell 8, hc.cell 9, hc.cell 10, hc.cell 11, hc.cell 12, hc.cell 13, hc.cell 14⟩
  have CO := Lib.hid (fun wx (hbx : Below X.heap.size X wx) => (hx2.below hbx (by omega)).all)
  obtain ⟨h0, h1, h2, h3, h4, h5, hsix⟩ : ∃ h0 h1 h2 h3 h4 h5, (hiM m F n O.kind).1 = [h0, h1, h2, h3, h4, h5] := hiL_six _ _ _ _ _ _ _ _ _
  obtain ⟨kn, hkn⟩ : ∃ b, b = (hiM m F n O.kind).2 := ⟨_, rfl⟩
  have CH : Hid (Calls Tryd.prog 65 _ X fun e w' => e = .returned (.tuple #[.agg #[.int .i64 h0, .int .i64 h1, .int .i64 h2, .int .i64 h3, .int .i64 h4, .int .i64 h5], .bool kn]) ∧ Below X.heap.size X w') := Lib.hid (by
    have := hgrow X hxb
    unfold hiV at this
    rw [hsix, ← hkn] at this
    exact this)
  have hF : fieldsB m F n O = if (O.kind = 10 ∨ O.kind = 15) ∧ O.a = O.b then false else knJ kn [h0, h1, h2, h3, h4, h5] [O.a, O.b, O.c, O.d, O.e, O.f] 6 && kB O.kind O.k := by unfold fieldsB; rw [if_neg hk, hsix, ← hkn]
  have CK := Lib.hid (fun wx => @kRight_any wx O.kind O.a O.b O.c O.d O.e O.f O.k O.next O.els O.pl (.slice A10 n10 c10) ho.k)
  obtain ⟨s0, s1, s2, s3, s4, s5, s6, s7, s8, s9, s10, s11, s12, s13, s14⟩ := hcb X (Below.refl _ _)
  obtain ⟨p0, p1, p2, p3, p4, p5, p6, p7, p8, p9, p10, p11⟩ := hx2.all
  have D0 := Lib.hid (fun wx => wi_one (w := wx) 0 h0 O.a ho.a)
  have D1 := Lib.hid (fun wx => wi_one (w := wx) 0 h1 O.b ho.b)
  have D2 := Lib.hid (fun wx => wi_one (w := wx) 0 h2 O.c ho.c)
  have D3 := Lib.hid (fun wx => wi_one (w := wx) 0 h3 O.d ho.d)
  have D4 := Lib.hid (fun wx => wi_one (w := wx) 0 h4 O.e ho.e)
  have D5 := Lib.hid (fun wx => wi_one (w := wx) 0 h5 O.f ho.f)
  obtain ⟨kd, hkd⟩ : ∃ k, k = O.kind := ⟨_, rfl⟩
  obtain ⟨oa, hoa⟩ : ∃ k, k = O.a := ⟨_, rfl⟩
  obtain ⟨ob, hob⟩ : ∃ k, k = O.b := ⟨_, rfl⟩
  rw [← hkd] at hX CO CH hF CK p0 hk ⊢
  rw [← hoa] at hX CO hF CK p1 D0 ⊢
  rw [← hob] at hX CO hF CK p2 D1 ⊢
  have HX := Lib.hid hX
  have HXB := Lib.hid hxb
  have HXS := Lib.hid hxs
  have HF := Lib.hid hF
  have g22 : (kd != 22) = true := by simpa using hk
  rw [hX] at s0 s1 s2 s3 s4 s5 s6 s7 s8 s9 s10 s11 s12 s13 s14 p0 p1 p2 p3 p4 p5 p6 p7 p8 p9 p10 p11
  clear hX hxb hx1 hx2 hxs hfl hb hz hS ho hn7 hn9 hn10 hF hgrow e7 hcb hsix hkn hkd hoa hob
  by_cases hbad : (kd = 10 ∨ kd = 15) ∧ oa = ob
  · obtain ⟨hk2, rfl⟩ := hbad
    have HV : Hid (fieldsB m F n O = false) := Lib.hid (by rw [HF.out, if_pos ⟨hk2, rfl⟩])
    clear HF
    rcases hk2 with rfl | rfl
    all_goals
      go_enter Tryd.func58, Tryd.ntmps58
      go_wp2
      rw [← HX.out]
      go_ret
      exact ⟨rbool HV.out.symm, HXB.out⟩
  · have HV : Hid (fieldsB m F n O = (knJ kn [h0, h1, h2, h3, h4, h5] [oa, ob, O.c, O.d, O.e, O.f] 6 && kB kd O.k)) := Lib.hid (by rw [HF.out, if_neg hbad])
    clear HF
    have hcase : (kd ≠ 10 ∧ kd ≠ 15) ∨ ((kd = 10 ∨ kd = 15) ∧ oa ≠ ob) := by
      by_cases h : kd = 10 ∨ kd = 15
      · exact .inr ⟨h, fun e => hbad ⟨h, e⟩⟩
      · exact .inl ⟨fun e => h (.inl e), fun e => h (.inr e)⟩
    clear hbad
    have hpre : ((kd ≠ 10 ∧ kd ≠ 15) ∨ (kd = 10 ∧ oa ≠ ob)) ∨ (kd = 15 ∧ oa ≠ ob) := by
      rcases hcase with h | ⟨h | h, h2⟩
      · exact .inl (.inl h)
      · exact .inl (.inr ⟨h, h2⟩)
      · exact .inr ⟨h, h2⟩
    clear hcase
    rcases hpre with (⟨ha, hb⟩ | ⟨rfl, ha⟩) | ⟨rfl, ha⟩
    · skip
      have g10 : (kd != 10) = true := by simpa using ha
      have g15 : (kd != 15) = true := by simpa using hb
      go_enter Tryd.func58, Tryd.ntmps58
      go_wp2_with fail
      rw [← HX.out]
      with_reducible refine CH.out.mono ?_
      rintro e w1 ⟨rfl, hb1⟩
      have HB1 := Lib.hid hb1
      have HE1 := Lib.hid (HXB.out.trans (hb1.mono (by have := HXS.out; omega)))
      have HS1 : Hid (w.heap.size + 2 ≤ w1.heap.size) := Lib.hid (by have := hb1.size; have := HXS.out; omega)
      clear s0 s1 s2 s3 s4 s5 s6 s7 s8 s9 s10 s11 s12 s13 s14 p0 p1 p2 p3 p4 p5 p6 p7 p8 p9 p10 p11 CH
      obtain ⟨p0, p1, p2, p3, p4, p5, p6, p7, p8, p9, p10, p11⟩ := CO.out w1 hb1
      have hz1 : w.heap.size + 1 < w1.heap.size := by have := HS1.out; omega
      obtain ⟨g5, hg5⟩ : ∃ g, g = w1.heap.size := ⟨_, rfl⟩
      obtain ⟨X5, hX5⟩ : ∃ X5 : World, X5 = w1.alloc (.cells #[.int .i64 h0, .int .i64 h1, .int .i64 h2, .int .i64 h3, .int .i64 h4, .int .i64 h5] 86) := ⟨_, rfl⟩
      have hx5 : X5.heap[g5]? = some (.cells #[.int .i64 h0, .int .i64 h1, .int .i64 h2, .int .i64 h3, .int .i64 h4, .int .i64 h5] 86 (0, 0)) := by rw [hX5, hg5]; exact heap_alloc_new _ _
      have hx5b : Below g5 w1 X5 := by rw [hX5, hg5]; exact (Below.refl _ w1).alloc (Nat.le_refl _) _
      have hx5s : X5.heap.size = g5 + 1 := by rw [hX5, hg5, asz]
      have HX5E := Lib.hid hX5
      have HG5 := Lib.hid hg5
      have HC5 := Lib.hid (fun wx (hbx : Below (g5 + 1) X5 wx) => show wx.cell? ⟨g5, 0, none⟩ = some (.int .i64 h0) ∧ wx.cell? ⟨g5, 1, none⟩ = some (.int .i64 h1) ∧ wx.cell? ⟨g5, 2, none⟩ = some (.int .i64 h2) ∧ wx.cell? ⟨g5, 3, none⟩ = some (.int .i64 h3) ∧ wx.cell? ⟨g5, 4, none⟩ = some (.int .i64 h4) ∧ wx.cell? ⟨g5, 5, none⟩ = some (.int .i64 h5) from by
        have hc : ∀ j, wx.cell? ⟨g5, j, none⟩ = (#[.int .i64 h0, .int .i64 h1, .int .i64 h2, .int .i64 h3, .int .i64 h4, .int .i64 h5] : Array Value)[j]? := fun j => cell_of_row wx g5 j _ _ (0, 0) ((hbx.block g5 (by omega)).trans hx5)
        exact ⟨hc 0, hc 1, hc 2, hc 3, hc 4, hc 5⟩)
      have HX5B := Lib.hid hx5b
      have HX5S := Lib.hid hx5s
      clear hX5 hg5 hx5 hx5b hx5s hb1
      go_wp2
      rw [← HX5E.out, ← HG5.out]
      clear p0 p1 p2 p3 p4 p5 p6 p7 p8 p9 p10 p11
      go_loopw [6, 73] (fun kv i wr => ∃ (j : Nat) (kb : Bool), j ≤ 6 ∧ i = .int .i64 j ∧ kv = .bool kb ∧ Hid (kb = knJ kn [h0, h1, h2, h3, h4, h5] [oa, ob, O.c, O.d, O.e, O.f] j) ∧ Hid (Below (g5 + 1) X5 wr) ∧ g5 + 1 ≤ wr.heap.size) (fun _ i _ => 6 - (intOf i).toNat)
      case atStart => exact ⟨0, kn, Nat.zero_le _, rfl, rfl, Lib.hid (by simp [knJ]), Lib.hid (Below.refl _ _), by have := HX5S.out; omega⟩
      case round =>
        obtain ⟨wo, rfl⟩ : ∃ wo : World, wo = wr := ⟨_, rfl⟩
        obtain ⟨j, kb, hj, rfl, rfl, HKB, HBL, hws⟩ := hrel
        by_cases hlt : j < 6
        · obtain ⟨hv, xv, HEZ, e1, cj, CD⟩ : ∃ hv xv, Hid (([h0, h1, h2, h3, h4, h5].zip [oa, ob, O.c, O.d, O.e, O.f])[j]? = some (hv, xv)) ∧ (Instr.index 86 (.agg #[.int .i64 oa, .int .i64 ob, .int .i64 O.c, .int .i64 O.d, .int .i64 O.e, .int .i64 O.f]) (.int .i64 (j : Int))).run Tryd.prog wo = .ok (.int .i64 xv) wo ∧ wo.cell? ⟨g5, j, none⟩ = some (.int .i64 hv) ∧ Hid (∀ wx : World, Calls Tryd.prog 43 #[.int .i64 0, .int .i64 hv, .slice (some ⟨wx.heap.size, 0, none⟩) 1 1] (wx.alloc (.cells #[.int .i64 xv] 3)) fun e w' => e = .returned (.bool (rg 0 hv xv)) ∧ Below wx.heap.size wx w') := by
            obtain ⟨c0, c1, c2, c3, c4, c5⟩ := HC5.out _ HBL.out
            have hj6 : j = 0 ∨ j = 1 ∨ j = 2 ∨ j = 3 ∨ j = 4 ∨ j = 5 := by omega
            rcases hj6 with rfl | rfl | rfl | rfl | rfl | rfl
            · exact ⟨h0, _, Lib.hid rfl, by kernel_rfl, c0, D0⟩
            · exact ⟨h1, _, Lib.hid rfl, by kernel_rfl, c1, D1⟩
            · exact ⟨h2, _, Lib.hid rfl, by kernel_rfl, c2, D2⟩
            · exact ⟨h3, _, Lib.hid rfl, by kernel_rfl, c3, D3⟩
            · exact ⟨h4, _, Lib.hid rfl, by kernel_rfl, c4, D4⟩
            · exact ⟨h5, _, Lib.hid rfl, by kernel_rfl, c5, D5⟩
          cases kb with
          | false =>
            have HN : Hid (false = knJ kn [h0, h1, h2, h3, h4, h5] [oa, ob, O.c, O.d, O.e, O.f] (j + 1)) := Lib.hid (by rw [knJ_succ HEZ.out, ← HKB.out]; rfl)
            clear HKB CD
            go_wp2
            go_roundw
            case rel => exact ⟨j + 1, _, by omega, by go_num, rfl, HN, HBL, hws⟩
            case measure => simp [intOf]; omega
          | true =>
            obtain ⟨q, hq⟩ : ∃ q, q = rg 0 hv xv := ⟨_, rfl⟩
            have HN : Hid (q = knJ kn [h0, h1, h2, h3, h4, h5] [oa, ob, O.c, O.d, O.e, O.f] (j + 1)) := Lib.hid (by rw [knJ_succ HEZ.out, ← HKB.out, hq]; rfl)
            have DD := Lib.hid (CD.out wo)
            rw [← hq] at DD
            clear HKB hq CD
            go_wp2_with fail
            with_reducible refine DD.out.mono ?_
            rintro e w2 ⟨rfl, hb2⟩
            have HB2 := Lib.hid (HBL.out.trans (hb2.mono hws))
            have hs2 := hb2.size
            clear hb2 DD cj
            go_wp2
            go_roundw
            case rel => exact ⟨j + 1, _, by omega, by go_num, rfl, HN, HB2, by omega⟩
            case measure => simp [intOf]; omega
        · obtain rfl : j = 6 := by omega
          have hbo : Below w.heap.size w wo := HE1.out.trans ((HX5B.out.mono (by have := HS1.out; have := HG5.out; omega)).trans (HBL.out.mono (by have := HS1.out; have := HG5.out; omega)))
          have HBO := Lib.hid hbo
          have hop := CO.out wo (HB1.out.trans ((HX5B.out.mono (by have := HXS.out; have := HS1.out; have := HG5.out; omega)).trans (HBL.out.mono (by have := HXS.out; have := HS1.out; have := HG5.out; omega))))
          obtain ⟨p0, p1, p2, p3, p4, p5, p6, p7, p8, p9, p10, p11⟩ := hop
          have CKK := Lib.hid (CK.out wo)
          clear hbo
          cases kb with
          | false =>
            have HR : Hid (fieldsB m F n O = false) := Lib.hid (by rw [HV.out, ← HKB.out]; rfl)
            clear HKB CKK
            go_wp2
            go_ret
            exact ⟨rbool HR.out.symm, HBO.out⟩
          | true =>
            have HR : Hid (fieldsB m F n O = kB _ O.k) := Lib.hid (by rw [HV.out, ← HKB.out]; exact Bool.true_and _)
            clear HKB
            go_wp2_with fail
            with_reducible refine CKK.out.mono ?_
            rintro e w2 ⟨rfl, hb2⟩
            have HB2 := Lib.hid (HBO.out.trans (hb2.mono HBO.out.size))
            clear hb2 CKK
            go_wp2
            go_ret
            exact ⟨rbool HR.out.symm, HB2.out⟩
    · skip
      have gab : (oa != ob) = true := by simpa using ha
      go_enter Tryd.func58, Tryd.ntmps58
      go_wp2_with fail
      rw [← HX.out]
      with_reducible refine CH.out.mono ?_
      rintro e w1 ⟨rfl, hb1⟩
      have HB1 := Lib.hid hb1
      have HE1 := Lib.hid (HXB.out.trans (hb1.mono (by have := HXS.out; omega)))
      have HS1 : Hid (w.heap.size + 2 ≤ w1.heap.size) := Lib.hid (by have := hb1.size; have := HXS.out; omega)
      clear s0 s1 s2 s3 s4 s5 s6 s7 s8 s9 s10 s11 s12 s13 s14 p0 p1 p2 p3 p4 p5 p6 p7 p8 p9 p10 p11 CH
      obtain ⟨p0, p1, p2, p3, p4, p5, p6, p7, p8, p9, p10, p11⟩ := CO.out w1 hb1
      have hz1 : w.heap.size + 1 < w1.heap.size := by have := HS1.out; omega
      obtain ⟨g5, hg5⟩ : ∃ g, g = w1.heap.size := ⟨_, rfl⟩
      obtain ⟨X5, hX5⟩ : ∃ X5 : World, X5 = w1.alloc (.cells #[.int .i64 h0, .int .i64 h1, .int .i64 h2, .int .i64 h3, .int .i64 h4, .int .i64 h5] 86) := ⟨_, rfl⟩
      have hx5 : X5.heap[g5]? = some (.cells #[.int .i64 h0, .int .i64 h1, .int .i64 h2, .int .i64 h3, .int .i64 h4, .int .i64 h5] 86 (0, 0)) := by rw [hX5, hg5]; exact heap_alloc_new _ _
      have hx5b : Below g5 w1 X5 := by rw [hX5, hg5]; exact (Below.refl _ w1).alloc (Nat.le_refl _) _
      have hx5s : X5.heap.size = g5 + 1 := by rw [hX5, hg5, asz]
      have HX5E := Lib.hid hX5
      have HG5 := Lib.hid hg5
      have HC5 := Lib.hid (fun wx (hbx : Below (g5 + 1) X5 wx) => show wx.cell? ⟨g5, 0, none⟩ = some (.int .i64 h0) ∧ wx.cell? ⟨g5, 1, none⟩ = some (.int .i64 h1) ∧ wx.cell? ⟨g5, 2, none⟩ = some (.int .i64 h2) ∧ wx.cell? ⟨g5, 3, none⟩ = some (.int .i64 h3) ∧ wx.cell? ⟨g5, 4, none⟩ = some (.int .i64 h4) ∧ wx.cell? ⟨g5, 5, none⟩ = some (.int .i64 h5) from by
        have hc : ∀ j, wx.cell? ⟨g5, j, none⟩ = (#[.int .i64 h0, .int .i64 h1, .int .i64 h2, .int .i64 h3, .int .i64 h4, .int .i64 h5] : Array Value)[j]? := fun j => cell_of_row wx g5 j _ _ (0, 0) ((hbx.block g5 (by omega)).trans hx5)
        exact ⟨hc 0, hc 1, hc 2, hc 3, hc 4, hc 5⟩)
      have HX5B := Lib.hid hx5b
      have HX5S := Lib.hid hx5s
      clear hX5 hg5 hx5 hx5b hx5s hb1
      go_wp2
      rw [← HX5E.out, ← HG5.out]
      clear p0 p1 p2 p3 p4 p5 p6 p7 p8 p9 p10 p11
      go_loopw [6, 73] (fun kv i wr => ∃ (j : Nat) (kb : Bool), j ≤ 6 ∧ i = .int .i64 j ∧ kv = .bool kb ∧ Hid (kb = knJ kn [h0, h1, h2, h3, h4, h5] [oa, ob, O.c, O.d, O.e, O.f] j) ∧ Hid (Below (g5 + 1) X5 wr) ∧ g5 + 1 ≤ wr.heap.size) (fun _ i _ => 6 - (intOf i).toNat)
      case atStart => exact ⟨0, kn, Nat.zero_le _, rfl, rfl, Lib.hid (by simp [knJ]), Lib.hid (Below.refl _ _), by have := HX5S.out; omega⟩
      case round =>
        obtain ⟨wo, rfl⟩ : ∃ wo : World, wo = wr := ⟨_, rfl⟩
        obtain ⟨j, kb, hj, rfl, rfl, HKB, HBL, hws⟩ := hrel
        by_cases hlt : j < 6
        · obtain ⟨hv, xv, HEZ, e1, cj, CD⟩ : ∃ hv xv, Hid (([h0, h1, h2, h3, h4, h5].zip [oa, ob, O.c, O.d, O.e, O.f])[j]? = some (hv, xv)) ∧ (Instr.index 86 (.agg #[.int .i64 oa, .int .i64 ob, .int .i64 O.c, .int .i64 O.d, .int .i64 O.e, .int .i64 O.f]) (.int .i64 (j : Int))).run Tryd.prog wo = .ok (.int .i64 xv) wo ∧ wo.cell? ⟨g5, j, none⟩ = some (.int .i64 hv) ∧ Hid (∀ wx : World, Calls Tryd.prog 43 #[.int .i64 0, .int .i64 hv, .slice (some ⟨wx.heap.size, 0, none⟩) 1 1] (wx.alloc (.cells #[.int .i64 xv] 3)) fun e w' => e = .returned (.bool (rg 0 hv xv)) ∧ Below wx.heap.size wx w') := by
            obtain ⟨c0, c1, c2, c3, c4, c5⟩ := HC5.out _ HBL.out
            have hj6 : j = 0 ∨ j = 1 ∨ j = 2 ∨ j = 3 ∨ j = 4 ∨ j = 5 := by omega
            rcases hj6 with rfl | rfl | rfl | rfl | rfl | rfl
            · exact ⟨h0, _, Lib.hid rfl, by kernel_rfl, c0, D0⟩
            · exact ⟨h1, _, Lib.hid rfl, by kernel_rfl, c1, D1⟩
            · exact ⟨h2, _, Lib.hid rfl, by kernel_rfl, c2, D2⟩
            · exact ⟨h3, _, Lib.hid rfl, by kernel_rfl, c3, D3⟩
            · exact ⟨h4, _, Lib.hid rfl, by kernel_rfl, c4, D4⟩
            · exact ⟨h5, _, Lib.hid rfl, by kernel_rfl, c5, D5⟩
          cases kb with
          | false =>
            have HN : Hid (false = knJ kn [h0, h1, h2, h3, h4, h5] [oa, ob, O.c, O.d, O.e, O.f] (j + 1)) := Lib.hid (by rw [knJ_succ HEZ.out, ← HKB.out]; rfl)
            clear HKB CD
            go_wp2
            go_roundw
            case rel => exact ⟨j + 1, _, by omega, by go_num, rfl, HN, HBL, hws⟩
            case measure => simp [intOf]; omega
          | true =>
            obtain ⟨q, hq⟩ : ∃ q, q = rg 0 hv xv := ⟨_, rfl⟩
            have HN : Hid (q = knJ kn [h0, h1, h2, h3, h4, h5] [oa, ob, O.c, O.d, O.e, O.f] (j + 1)) := Lib.hid (by rw [knJ_succ HEZ.out, ← HKB.out, hq]; rfl)
            have DD := Lib.hid (CD.out wo)
            rw [← hq] at DD
            clear HKB hq CD
            go_wp2_with fail
            with_reducible refine DD.out.mono ?_
            rintro e w2 ⟨rfl, hb2⟩
            have HB2 := Lib.hid (HBL.out.trans (hb2.mono hws))
            have hs2 := hb2.size
            clear hb2 DD cj
            go_wp2
            go_roundw
            case rel => exact ⟨j + 1, _, by omega, by go_num, rfl, HN, HB2, by omega⟩
            case measure => simp [intOf]; omega
        · obtain rfl : j = 6 := by omega
          have hbo : Below w.heap.size w wo := HE1.out.trans ((HX5B.out.mono (by have := HS1.out; have := HG5.out; omega)).trans (HBL.out.mono (by have := HS1.out; have := HG5.out; omega)))
          have HBO := Lib.hid hbo
          have hop := CO.out wo (HB1.out.trans ((HX5B.out.mono (by have := HXS.out; have := HS1.out; have := HG5.out; omega)).trans (HBL.out.mono (by have := HXS.out; have := HS1.out; have := HG5.out; omega))))
          obtain ⟨p0, p1, p2, p3, p4, p5, p6, p7, p8, p9, p10, p11⟩ := hop
          have CKK := Lib.hid (CK.out wo)
          clear hbo
          cases kb with
          | false =>
            have HR : Hid (fieldsB m F n O = false) := Lib.hid (by rw [HV.out, ← HKB.out]; rfl)
            clear HKB CKK
            go_wp2
            go_ret
            exact ⟨rbool HR.out.symm, HBO.out⟩
          | true =>
            have HR : Hid (fieldsB m F n O = kB _ O.k) := Lib.hid (by rw [HV.out, ← HKB.out]; exact Bool.true_and _)
            clear HKB
            go_wp2_with fail
            with_reducible refine CKK.out.mono ?_
            rintro e w2 ⟨rfl, hb2⟩
            have HB2 := Lib.hid (HBO.out.trans (hb2.mono HBO.out.size))
            clear hb2 CKK
            go_wp2
            go_ret
            exact ⟨rbool HR.out.symm, HB2.out⟩
    · skip
      have gab : (oa != ob) = true := by simpa using ha
      go_enter Tryd.func58, Tryd.ntmps58
      go_wp2_with fail
      rw [← HX.out]
      with_reducible refine CH.out.mono ?_
      rintro e w1 ⟨rfl, hb1⟩
      have HB1 := Lib.hid hb1
      have HE1 := Lib.hid (HXB.out.trans (hb1.mono (by have := HXS.out; omega)))
      have HS1 : Hid (w.heap.size + 2 ≤ w1.heap.size) := Lib.hid (by have := hb1.size; have := HXS.out; omega)
      clear s0 s1 s2 s3 s4 s5 s6 s7 s8 s9 s10 s11 s12 s13 s14 p0 p1 p2 p3 p4 p5 p6 p7 p8 p9 p10 p11 CH
      obtain ⟨p0, p1, p2, p3, p4, p5, p6, p7, p8, p9, p10, p11⟩ := CO.out w1 hb1
      have hz1 : w.heap.size + 1 < w1.heap.size := by have := HS1.out; omega
      obtain ⟨g5, hg5⟩ : ∃ g, g = w1.heap.size := ⟨_, rfl⟩
      obtain ⟨X5, hX5⟩ : ∃ X5 : World, X5 = w1.alloc (.cells #[.int .i64 h0, .int .i64 h1, .int .i64 h2, .int .i64 h3, .int .i64 h4, .int .i64 h5] 86) := ⟨_, rfl⟩
      have hx5 : X5.heap[g5]? = some (.cells #[.int .i64 h0, .int .i64 h1, .int .i64 h2, .int .i64 h3, .int .i64 h4, .int .i64 h5] 86 (0, 0)) := by rw [hX5, hg5]; exact heap_alloc_new _ _
      have hx5b : Below g5 w1 X5 := by rw [hX5, hg5]; exact (Below.refl _ w1).alloc (Nat.le_refl _) _
      have hx5s : X5.heap.size = g5 + 1 := by rw [hX5, hg5, asz]
      have HX5E := Lib.hid hX5
      have HG5 := Lib.hid hg5
      have HC5 := Lib.hid (fun wx (hbx : Below (g5 + 1) X5 wx) => show wx.cell? ⟨g5, 0, none⟩ = some (.int .i64 h0) ∧ wx.cell? ⟨g5, 1, none⟩ = some (.int .i64 h1) ∧ wx.cell? ⟨g5, 2, none⟩ = some (.int .i64 h2) ∧ wx.cell? ⟨g5, 3, none⟩ = some (.int .i64 h3) ∧ wx.cell? ⟨g5, 4, none⟩ = some (.int .i64 h4) ∧ wx.cell? ⟨g5, 5, none⟩ = some (.int .i64 h5) from by
        have hc : ∀ j, wx.cell? ⟨g5, j, none⟩ = (#[.int .i64 h0, .int .i64 h1, .int .i64 h2, .int .i64 h3, .int .i64 h4, .int .i64 h5] : Array Value)[j]? := fun j => cell_of_row wx g5 j _ _ (0, 0) ((hbx.block g5 (by omega)).trans hx5)
        exact ⟨hc 0, hc 1, hc 2, hc 3, hc 4, hc 5⟩)
      have HX5B := Lib.hid hx5b
      have HX5S := Lib.hid hx5s
      clear hX5 hg5 hx5 hx5b hx5s hb1
      go_wp2
      rw [← HX5E.out, ← HG5.out]
      clear p0 p1 p2 p3 p4 p5 p6 p7 p8 p9 p10 p11
      go_loopw [6, 73] (fun kv i wr => ∃ (j : Nat) (kb : Bool), j ≤ 6 ∧ i = .int .i64 j ∧ kv = .bool kb ∧ Hid (kb = knJ kn [h0, h1, h2, h3, h4, h5] [oa, ob, O.c, O.d, O.e, O.f] j) ∧ Hid (Below (g5 + 1) X5 wr) ∧ g5 + 1 ≤ wr.heap.size) (fun _ i _ => 6 - (intOf i).toNat)
      case atStart => exact ⟨0, kn, Nat.zero_le _, rfl, rfl, Lib.hid (by simp [knJ]), Lib.hid (Below.refl _ _), by have := HX5S.out; omega⟩
      case round =>
        obtain ⟨wo, rfl⟩ : ∃ wo : World, wo = wr := ⟨_, rfl⟩
        obtain ⟨j, kb, hj, rfl, rfl, HKB, HBL, hws⟩ := hrel
        by_cases hlt : j < 6
        · obtain ⟨hv, xv, HEZ, e1, cj, CD⟩ : ∃ hv xv, Hid (([h0, h1, h2, h3, h4, h5].zip [oa, ob, O.c, O.d, O.e, O.f])[j]? = some (hv, xv)) ∧ (Instr.index 86 (.agg #[.int .i64 oa, .int .i64 ob, .int .i64 O.c, .int .i64 O.d, .int .i64 O.e, .int .i64 O.f]) (.int .i64 (j : Int))).run Tryd.prog wo = .ok (.int .i64 xv) wo ∧ wo.cell? ⟨g5, j, none⟩ = some (.int .i64 hv) ∧ Hid (∀ wx : World, Calls Tryd.prog 43 #[.int .i64 0, .int .i64 hv, .slice (some ⟨wx.heap.size, 0, none⟩) 1 1] (wx.alloc (.cells #[.int .i64 xv] 3)) fun e w' => e = .returned (.bool (rg 0 hv xv)) ∧ Below wx.heap.size wx w') := by
            obtain ⟨c0, c1, c2, c3, c4, c5⟩ := HC5.out _ HBL.out
            have hj6 : j = 0 ∨ j = 1 ∨ j = 2 ∨ j = 3 ∨ j = 4 ∨ j = 5 := by omega
            rcases hj6 with rfl | rfl | rfl | rfl | rfl | rfl
            · exact ⟨h0, _, Lib.hid rfl, by kernel_rfl, c0, D0⟩
            · exact ⟨h1, _, Lib.hid rfl, by kernel_rfl, c1, D1⟩
            · exact ⟨h2, _, Lib.hid rfl, by kernel_rfl, c2, D2⟩
            · exact ⟨h3, _, Lib.hid rfl, by kernel_rfl, c3, D3⟩
            · exact ⟨h4, _, Lib.hid rfl, by kernel_rfl, c4, D4⟩
            · exact ⟨h5, _, Lib.hid rfl, by kernel_rfl, c5, D5⟩
          cases kb with
          | false =>
            have HN : Hid (false = knJ kn [h0, h1, h2, h3, h4, h5] [oa, ob, O.c, O.d, O.e, O.f] (j + 1)) := Lib.hid (by rw [knJ_succ HEZ.out, ← HKB.out]; rfl)
            clear HKB CD
            go_wp2
            go_roundw
            case rel => exact ⟨j + 1, _, by omega, by go_num, rfl, HN, HBL, hws⟩
            case measure => simp [intOf]; omega
          | true =>
            obtain ⟨q, hq⟩ : ∃ q, q = rg 0 hv xv := ⟨_, rfl⟩
            have HN : Hid (q = knJ kn [h0, h1, h2, h3, h4, h5] [oa, ob, O.c, O.d, O.e, O.f] (j + 1)) := Lib.hid (by rw [knJ_succ HEZ.out, ← HKB.out, hq]; rfl)
            have DD := Lib.hid (CD.out wo)
            rw [← hq] at DD
            clear HKB hq CD
            go_wp2_with fail
            with_reducible refine DD.out.mono ?_
            rintro e w2 ⟨rfl, hb2⟩
            have HB2 := Lib.hid (HBL.out.trans (hb2.mono hws))
            have hs2 := hb2.size
            clear hb2 DD cj
            go_wp2
            go_roundw
            case rel => exact ⟨j + 1, _, by omega, by go_num, rfl, HN, HB2, by omega⟩
            case measure => simp [intOf]; omega
        · obtain rfl : j = 6 := by omega
          have hbo : Below w.heap.size w wo := HE1.out.trans ((HX5B.out.mono (by have := HS1.out; have := HG5.out; omega)).trans (HBL.out.mono (by have := HS1.out; have := HG5.out; omega)))
          have HBO := Lib.hid hbo
          have hop := CO.out wo (HB1.out.trans ((HX5B.out.mono (by have := HXS.out; have := HS1.out; have := HG5.out; omega)).trans (HBL.out.mono (by have := HXS.out; have := HS1.out; have := HG5.out; omega))))
          obtain ⟨p0, p1, p2, p3, p4, p5, p6, p7, p8, p9, p10, p11⟩ := hop
          have CKK := Lib.hid (CK.out wo)
          clear hbo
          cases kb with
          | false =>
            have HR : Hid (fieldsB m F n O = false) := Lib.hid (by rw [HV.out, ← HKB.out]; rfl)
            clear HKB CKK
            go_wp2
            go_ret
            exact ⟨rbool HR.out.symm, HBO.out⟩
          | true =>
            have HR : Hid (fieldsB m F n O = kB _ O.k) := Lib.hid (by rw [HV.out, ← HKB.out]; exact Bool.true_and _)
            clear HKB
            go_wp2_with fail
            with_reducible refine CKK.out.mono ?_
            rintro e w2 ⟨rfl, hb2⟩
            have HB2 := Lib.hid (HBO.out.trans (hb2.mono HBO.out.size))
            clear hb2 CKK
            go_wp2
            go_ret
            exact ⟨rbool HR.out.symm, HB2.out⟩

end Go.Proofs.YtgohnlcgidmlfaaDoor
