/- Package code: Right, Words, Size. -/
import Derived.Test.YtgohnlcgidmlfaaDoorMek
set_option linter.unusedVariables false
set_option linter.unusedSimpArgs false
namespace Go.Proofs.YtgohnlcgidmlfaaDoor
open Go.RowKit

def opsM (m : Mo) : Bool := m.funcs.all fun f => f.code.all (opB m f (sumS m.globals))
def rightM (m : Mo) : Bool := partsM m && funcsM m && opsM m
theorem partsM_globals {m : Mo} (h : partsM m = true) : (∀ s ∈ m.globals, 0 ≤ s.size ∧ s.size ≤ 2) ∧ m.globals.length ≤ 16 := by
  unfold partsM szB at h
  simp only [Bool.and_eq_true, decide_eq_true_eq, List.all_eq_true] at h
  obtain ⟨⟨⟨⟨⟨⟨h1, -⟩, -⟩, -⟩, -⟩, -⟩, -⟩ := h
  exact ⟨fun s hs => by have := rg_iff.1 (h1.2 s hs); omega, by omega⟩
theorem funcsM_fns {m : Mo} (h : funcsM m = true) : m.funcs.all fnB = true ∧ m.funcs.length ≤ 12 ∧ 1 ≤ m.funcs.length := by
  unfold funcsM at h
  simp only [Bool.and_eq_true, decide_eq_true_eq] at h
  obtain ⟨⟨⟨⟨h1, -⟩, -⟩, h4⟩, -⟩ := h
  have := rg_iff.1 h1
  exact ⟨h4, by omega, by omega⟩

set_option maxHeartbeats 4000000 in
set_option maxRecDepth 100000 in
theorem ops_any {w : World} {m : Mo} {v : Vm} (h : IsMo w (· < w.heap.size) m v) (hp : partsM m = true) (hf : funcsM m = true) :
    Calls Tryd.prog 29 #[.agg v.arr] w (AnyPost w (opsM m)) := by
  obtain ⟨A7, c7, e7, -, hl7⟩ := h.f.form
  obtain ⟨n7, hn7⟩ : ∃ n, n = m.funcs.length := ⟨_, rfl⟩
  rw [← hn7] at e7 hl7
  obtain ⟨vg, vs, vc, vl, vi, vo, vh, vf, vt⟩ := v
  dsimp only at e7
  subst e7
  obtain ⟨B0, d0, e0, -, -⟩ := h.g.form
  dsimp only at e0
  subst e0
  obtain ⟨B1, d1, e1, -, -⟩ := h.s.form
  dsimp only at e1
  subst e1
  obtain ⟨B2, d2, e2, -, -⟩ := h.c.form
  dsimp only at e2
  subst e2
  obtain ⟨B3, d3, e3, -, -⟩ := h.l.form
  dsimp only at e3
  subst e3
  obtain ⟨B4, d4, e4, -, -⟩ := h.i.form
  dsimp only at e4
  subst e4
  obtain ⟨B5, d5, e5, -, -⟩ := h.o.form
  dsimp only at e5
  subst e5
  obtain ⟨B6, d6, e6, -, -⟩ := h.h.form
  dsimp only at e6
  subst e6
  obtain ⟨B8, d8, e8, -, -⟩ := h.t.form
  dsimp only at e8
  subst e8
  simp only [Vm.arr]
  obtain ⟨hgs, hg16⟩ := partsM_globals hp
  obtain ⟨hfns, -, -⟩ := funcsM_fns hf
  obtain ⟨n, hn⟩ : ∃ n, n = sumS m.globals := ⟨_, rfl⟩
  have hnb : 0 ≤ n ∧ n ≤ 32 := by have := sumS_bound _ hgs; rw [hn]; omega
  have hO : opsM m = m.funcs.all fun f => f.code.all (opB m f n) := by rw [hn]; rfl
  obtain ⟨X, hX⟩ : ∃ X : World, X = w.alloc (.cells #[.slice B0 m.globals.length d0, .slice B1 m.structs.length d1, .slice B2 m.chans.length d2, .slice B3 m.locks.length d3, .slice B4 m.inputs.length d4, .slice B5 m.sinks.length d5, .slice B6 m.hatches.length d6, .slice A7 n7 c7, .slice B8 m.threads.length d8] 27) := ⟨_, rfl⟩
  have hxb : Below w.heap.size w X := by rw [hX]; exact (Below.refl _ w).alloc (Nat.le_refl _) _
  have hx1 : MoBlk X w.heap.size ⟨.slice B0 m.globals.length d0, .slice B1 m.structs.length d1, .slice B2 m.chans.length d2, .slice B3 m.locks.length d3, .slice B4 m.inputs.length d4, .slice B5 m.sinks.length d5, .slice B6 m.hatches.length d6, .slice A7 n7 c7, .slice B8 m.threads.length d8⟩ := by rw [hX]; exact heap_alloc_new w _
  have hxs : X.heap.size = w.heap.size + 1 := by rw [hX, asz]
  have hi : ∀ wx, Below X.heap.size X wx → IsMo wx (· < wx.heap.size) m ⟨.slice B0 m.globals.length d0, .slice B1 m.structs.length d1, .slice B2 m.chans.length d2, .slice B3 m.locks.length d3, .slice B4 m.inputs.length d4, .slice B5 m.sinks.length d5, .slice B6 m.hatches.length d6, .slice A7 n7 c7, .slice B8 m.threads.length d8⟩ := fun wx hb => h.grow (hxb.trans (hb.mono (by omega)))
  have C0 := Lib.hid (words_any (hi X (Below.refl _ _)) hgs hg16)
  rw [← hn] at C0
  simp only [Vm.arr] at C0
  have CC := Lib.hid (fun wx (hb : Below X.heap.size X wx) => show wx.cell? ⟨w.heap.size, 0, none⟩ = some (.slice B0 m.globals.length d0) ∧ wx.cell? ⟨w.heap.size, 1, none⟩ = some (.slice B1 m.structs.length d1) ∧ wx.cell? ⟨w.heap.size, 2, none⟩ = some (.slice B2 m.chans.length d2) ∧ wx.cell? ⟨w.heap.size, 3, none⟩ = some (.slice B3 m.locks.length d3) ∧ wx.cell? ⟨w.heap.size, 4, none⟩ = some (.slice B4 m.inputs.length d4) ∧ wx.cell? ⟨w.heap.size, 5, none⟩ = some (.slice B5 m.sinks.length d5) ∧ wx.cell? ⟨w.heap.size, 6, none⟩ = some (.slice B6 m.hatches.length d6) ∧ wx.cell? ⟨w.heap.size, 7, none⟩ = some (.slice A7 n7 c7) ∧ wx.cell? ⟨w.heap.size, 8, none⟩ = some (.slice B8 m.threads.length d8) from (hx1.below hb (by omega)).all)
  have HI := Lib.hid hi
  have HX := Lib.hid hX
  have HXB := Lib.hid hxb
  have HXS := Lib.hid hxs
  have HO := Lib.hid hO
  have HN7 := Lib.hid hn7
  have HFN := Lib.hid hfns
  have HNB := Lib.hid hnb
  clear hX hxb hx1 hxs hi hO hn7 hfns hn hgs hg16 hp hf h hnb
  go_enter Tryd.func29, Tryd.ntmps29
  go_wp2_with fail
  rw [← HX.out]
  with_reducible refine C0.out.mono ?_
  rintro e w1 ⟨rfl, h1⟩
  have HB1 := Lib.hid h1
  obtain ⟨p0, p1, p2, p3, p4, p5, p6, p7, p8⟩ := CC.out w1 h1
  clear h1 C0
  go_wp2
  clear p0 p1 p2 p3 p4 p5 p6 p7 p8
  go_loopw [13] (fun i wr => ∃ j : Nat, j ≤ n7 ∧ i = .int .i64 j ∧ Hid (∀ k (hk : k < m.funcs.length), k < j → m.funcs[k].code.all (opB m m.funcs[k] n) = true) ∧ Hid (Below X.heap.size X wr)) (fun i _ => n7 - (intOf i).toNat)
  case atStart => exact ⟨0, Nat.zero_le _, rfl, Lib.hid (fun k _ hk => absurd hk (Nat.not_lt_zero _)), HB1⟩
  case round =>
    obtain ⟨wo, rfl⟩ : ∃ wo : World, wo = wr := ⟨_, rfl⟩
    obtain ⟨j, hj, rfl, HOK, HBL⟩ := hrel
    obtain ⟨p0, p1, p2, p3, p4, p5, p6, p7, p8⟩ := CC.out wo HBL.out
    have hws : w.heap.size < wo.heap.size := by have := HBL.out.size; have := HXS.out; omega
    by_cases hlt : j < n7
    · have hje : j < m.funcs.length := by rw [← HN7.out]; exact hlt
      have hmo := HI.out wo HBL.out
      have hfl : Lies KF wo (· < wo.heap.size) m.funcs (.slice A7 n7 c7) := hmo.f
      obtain ⟨b, off, cv, rfl, hbS, hat, hcode, hfin⟩ := hfl.fn j hje
      have hfB := List.all_eq_true.1 HFN.out _ (List.getElem_mem hje)
      obtain ⟨Y, hY⟩ : ∃ Y, Y = m.funcs[j] := ⟨_, rfl⟩
      rw [← hY] at hat hcode hfin hfB
      obtain ⟨A9, c9, rfl, -, hl9⟩ := hcode.form
      have hbd0 : BdOk wo m ⟨.slice B0 m.globals.length d0, .slice B1 m.structs.length d1, .slice B2 m.chans.length d2, .slice B3 m.locks.length d3, .slice B4 m.inputs.length d4, .slice B5 m.sinks.length d5, .slice B6 m.hatches.length d6, .slice (some ⟨b, off, none⟩) n7 c7, .slice B8 m.threads.length d8⟩ Y (.slice A9 Y.code.length c9) n := ⟨hmo, hcode, hfin, hfB, HFN.out, HNB.out⟩
      obtain ⟨n9, hn9⟩ : ∃ n, n = Y.code.length := ⟨_, rfl⟩
      rw [← hn9] at hat hcode hl9 hbd0
      obtain ⟨r0, r1, r2, r3, r4⟩ := hat
      obtain ⟨W2, hW2⟩ : ∃ W2 : World, W2 = (wo.alloc (.cells #[.string (bs Y.name), .int .i64 Y.params, .int .i64 Y.regs, .int .i64 Y.result, .slice A9 n9 c9] 39)).alloc (.cells #[.slice B0 m.globals.length d0, .slice B1 m.structs.length d1, .slice B2 m.chans.length d2, .slice B3 m.locks.length d3, .slice B4 m.inputs.length d4, .slice B5 m.sinks.length d5, .slice B6 m.hatches.length d6, .slice (some ⟨b, off, none⟩) n7 c7, .slice B8 m.threads.length d8, .string (bs Y.name), .int .i64 Y.params, .int .i64 Y.regs, .int .i64 Y.result, .slice A9 n9 c9, .int .i64 n] 72) := ⟨_, rfl⟩
      have hw2 : Below wo.heap.size wo W2 := by rw [hW2]; exact ((Below.refl _ wo).alloc (Nat.le_refl _) _).alloc (by simp) _
      have hw2s : W2.heap.size = wo.heap.size + 2 := by rw [hW2]; simp
      have hbk : BdBlk W2 (wo.heap.size + 1) ⟨.slice B0 m.globals.length d0, .slice B1 m.structs.length d1, .slice B2 m.chans.length d2, .slice B3 m.locks.length d3, .slice B4 m.inputs.length d4, .slice B5 m.sinks.length d5, .slice B6 m.hatches.length d6, .slice (some ⟨b, off, none⟩) n7 c7, .slice B8 m.threads.length d8⟩ Y (.slice A9 n9 c9) n := by
        have := heap_alloc_new (wo.alloc (.cells #[.string (bs Y.name), .int .i64 Y.params, .int .i64 Y.regs, .int .i64 Y.result, .slice A9 n9 c9] 39)) (.cells #[.slice B0 m.globals.length d0, .slice B1 m.structs.length d1, .slice B2 m.chans.length d2, .slice B3 m.locks.length d3, .slice B4 m.inputs.length d4, .slice B5 m.sinks.length d5, .slice B6 m.hatches.length d6, .slice (some ⟨b, off, none⟩) n7 c7, .slice B8 m.threads.length d8, .string (bs Y.name), .int .i64 Y.params, .int .i64 Y.regs, .int .i64 Y.result, .slice A9 n9 c9, .int .i64 n] 72)
        rw [asz] at this
        rw [hW2]
        exact this
      obtain ⟨q, hq⟩ : ∃ q, q = Y.code.any fun O => !opB m Y n O := ⟨_, rfl⟩
      have hcall : Calls Tryd.prog 50 #[.slice A9 n9 c9, .func (.func 48) #[] #[.pointer (some ⟨wo.heap.size + 1, 0, none⟩)]] W2 (AnyPost W2 q) := by
        have hcd := hcode.keep (w' := W2) (fun b hq => hw2.block b hq) (fun _ h => h)
        have hpr : Pred W2 48 #[.pointer (some ⟨wo.heap.size + 1, 0, none⟩)] Y.code.length (ArgO W2 (· < wo.heap.size) Y.code) (fun k => !((Y.code[k]?.map (opB m Y n)).getD false)) :=
          { ent := fun _ _ => rfl
            call := fun k hk x hx wy hby => by
              obtain ⟨hk', u, rfl, hu, hin⟩ := hx
              rw [List.getElem?_eq_getElem hk']
              exact ops1_any ((hbd0.grow hw2).grow hby) (hu.keep (w' := wy) (fun b hq => hby.block b (by omega)) (fun _ h => h)) (fun b hq => by have := hby.size; omega) hin (hbk.below hby (by omega)) }
        have hc := containsO_any hcd (fun b hq => by omega) hpr
        rw [any_range Y.code (fun O => !opB m Y n O) _ (fun k hk => by rw [List.getElem?_eq_getElem hk]; rfl), ← hq] at hc
        exact hc
      have hall : Y.code.all (opB m Y n) = !q := by rw [hq, List.not_any_eq_all_not]; simp
      have HW2 := Lib.hid hW2
      have HW2B := Lib.hid hw2
      have HCALL := Lib.hid hcall
      have HALL := Lib.hid hall
      have HY := Lib.hid hY
      have hbs : b < wo.heap.size := hbS
      have hw0 : wo.heap.size ≠ w.heap.size := by omega
      clear hmo hfl hcode hfin hfB hbd0 hn9 hW2 hw2 hw2s hbk hcall hall hq hY hbS
      go_wp2_with fail
      rw [← HW2.out]
      with_reducible refine HCALL.out.mono ?_
      rintro e w3 ⟨rfl, h3⟩
      have HB3 := Lib.hid (HBL.out.trans ((HW2B.out.trans (h3.mono HW2B.out.size)).mono HBL.out.size))
      clear h3 HCALL r0 r1 r2 r3 r4 p0 p1 p2 p3 p4 p5 p6 p7 p8
      cases q with
      | true =>
        have HR : Hid (opsM m = false) := Lib.hid (by
          rw [HO.out, List.all_eq_false]
          refine ⟨Y, by rw [HY.out]; exact List.getElem_mem hje, ?_⟩
          rw [HALL.out]; simp)
        go_wp2
        go_ret
        exact ⟨rbool HR.out.symm, HXB.out.trans (HB3.out.mono (by have := HXS.out; omega))⟩
      | false =>
        go_wp2
        go_roundw
        case rel =>
          refine ⟨j + 1, by omega, by go_num, Lib.hid (fun k hk hkj => ?_), HB3⟩
          by_cases e : k = j
          · subst e
            rw [← HY.out, HALL.out]; rfl
          · exact HOK.out k hk (by omega)
        case measure => simp [intOf]; omega
    · have HR : Hid (opsM m = true) := Lib.hid (by
        rw [HO.out, List.all_eq_true]
        intro f hf
        obtain ⟨k, hk, rfl⟩ := List.getElem_of_mem hf
        exact HOK.out k hk (by have := HN7.out; omega))
      go_wp2
      go_ret
      exact ⟨rbool HR.out.symm, HXB.out.trans (HBL.out.mono (by have := HXS.out; omega))⟩

set_option maxHeartbeats 2000000 in
set_option maxRecDepth 100000 in
theorem right_any {w : World} {m : Mo} {v : Vm} (h : IsMo w (· < w.heap.size) m v) :
    Calls Tryd.prog 11 #[.agg v.arr] w (AnyPost w (rightM m)) := by
  obtain ⟨X, hX⟩ : ∃ X : World, X = w.alloc (.cells #[v.g, v.s, v.c, v.l, v.i, v.o, v.h, v.f, v.t] 27) := ⟨_, rfl⟩
  have hxb : Below w.heap.size w X := by rw [hX]; exact (Below.refl _ w).alloc (Nat.le_refl _) _
  have hx1 : MoBlk X w.heap.size v := by rw [hX]; exact MoBlk.grow
  have hxs : X.heap.size = w.heap.size + 1 := by rw [hX, asz]
  have hi : ∀ wx, Below X.heap.size X wx → IsMo wx (· < wx.heap.size) m v := fun wx hb => h.grow (hxb.trans (hb.mono (by omega)))
  obtain ⟨q0, hq0⟩ : ∃ q, q = partsM m := ⟨_, rfl⟩
  obtain ⟨q1, hq1⟩ : ∃ q, q = funcsM m := ⟨_, rfl⟩
  have C0 := Lib.hid (parts_any (hi X (Below.refl _ _)))
  have C1 := Lib.hid (fun wx hb => funcs_any (hi wx hb))
  have C2 := Lib.hid (fun (hp : q0 = true) (hf : q1 = true) wx hb => ops_any (hi wx hb) (hq0 ▸ hp) (hq1 ▸ hf))
  rw [← hq0] at C0
  rw [← hq1] at C1
  simp only [Vm.arr] at C0 C1 C2 ⊢
  have CC := Lib.hid (fun wx (hb : Below X.heap.size X wx) => (hx1.below hb (by omega)).all)
  have HM : Hid (rightM m = (q0 && q1 && opsM m)) := Lib.hid (by rw [hq0, hq1]; rfl)
  have HX := Lib.hid hX
  have HXB := Lib.hid hxb
  have HXS := Lib.hid hxs
  clear hX hxb hx1 hxs hi hq0 hq1 h
  go_enter Tryd.func11, Tryd.ntmps11
  go_wp2_with fail
  rw [← HX.out]
  with_reducible refine C0.out.mono ?_
  rintro e w1 ⟨rfl, h1⟩
  have HB1 := Lib.hid h1
  have HE1 := Lib.hid (HXB.out.trans (h1.mono (by have := HXS.out; omega)))
  obtain ⟨p0, p1, p2, p3, p4, p5, p6, p7, p8⟩ := CC.out w1 h1
  clear h1 C0
  cases q0 with
  | false =>
    clear C1 C2 CC
    go_wp2
    go_ret
    exact ⟨rbool (by rw [HM.out]; simp), HE1.out⟩
  | true =>
    have D2 := Lib.hid (C2.out (by first | rfl | trivial))
    clear C2
    go_wp2_with fail
    with_reducible refine (C1.out w1 HB1.out).mono ?_
    rintro e w2 ⟨rfl, h2⟩
    have h2 := HB1.out.trans (h2.mono HB1.out.size)
    have HB2 := Lib.hid h2
    have HE2 := Lib.hid (HXB.out.trans (h2.mono (by have := HXS.out; omega)))
    clear p0 p1 p2 p3 p4 p5 p6 p7 p8 C1
    obtain ⟨p0, p1, p2, p3, p4, p5, p6, p7, p8⟩ := CC.out w2 h2
    clear h2 CC
    cases q1 with
    | false =>
      clear D2
      go_wp2
      go_ret
      exact ⟨rbool (by rw [HM.out]; simp), HE2.out⟩
    | true =>
      have E2 := Lib.hid (D2.out (by first | rfl | trivial) w2 HB2.out)
      clear D2
      go_wp2_with fail
      with_reducible refine E2.out.mono ?_
      rintro e w3 ⟨rfl, h3⟩
      have HE3 := Lib.hid (HE2.out.trans (h3.mono HE2.out.size))
      clear h3 E2 p0 p1 p2 p3 p4 p5 p6 p7 p8
      go_wp2
      go_ret
      exact ⟨rbool (by rw [HM.out]; simp), HE3.out⟩

set_option maxHeartbeats 2000000 in
set_option maxRecDepth 100000 in
theorem wordsR_any {w : World} {m : Mo} {v : Vm} (h : IsMo w (· < w.heap.size) m v) :
    Calls Tryd.prog 13 #[.agg v.arr] w fun e w' => e = .returned (.int .i64 (if rightM m = true then sumS m.globals else 0)) ∧ Below w.heap.size w w' := by
  obtain ⟨X, hX⟩ : ∃ X : World, X = w.alloc (.cells #[v.g, v.s, v.c, v.l, v.i, v.o, v.h, v.f, v.t] 27) := ⟨_, rfl⟩
  have hxb : Below w.heap.size w X := by rw [hX]; exact (Below.refl _ w).alloc (Nat.le_refl _) _
  have hx1 : MoBlk X w.heap.size v := by rw [hX]; exact MoBlk.grow
  have hxs : X.heap.size = w.heap.size + 1 := by rw [hX, asz]
  have hi : ∀ wx, Below X.heap.size X wx → IsMo wx (· < wx.heap.size) m v := fun wx hb => h.grow (hxb.trans (hb.mono (by omega)))
  obtain ⟨q, hq⟩ : ∃ q, q = rightM m := ⟨_, rfl⟩
  have C0 := Lib.hid (right_any (hi X (Below.refl _ _)))
  have C1 : Hid (q = true → ∀ wx, Below X.heap.size X wx → Calls Tryd.prog 32 #[.agg v.arr] wx fun e w' => e = .returned (.int .i64 (sumS m.globals)) ∧ Below wx.heap.size wx w') := Lib.hid (fun hr wx hb => by
    rw [hq] at hr
    unfold rightM at hr
    simp only [Bool.and_eq_true] at hr
    exact words_any (hi wx hb) (partsM_globals hr.1.1).1 (partsM_globals hr.1.1).2)
  rw [← hq] at C0 ⊢
  simp only [Vm.arr] at C0 C1 ⊢
  have CC := Lib.hid (fun wx (hb : Below X.heap.size X wx) => (hx1.below hb (by omega)).all)
  have HX := Lib.hid hX
  have HXB := Lib.hid hxb
  have HXS := Lib.hid hxs
  clear hX hxb hx1 hxs hi hq h
  go_enter Tryd.func13, Tryd.ntmps13
  go_wp2_with fail
  rw [← HX.out]
  with_reducible refine C0.out.mono ?_
  rintro e w1 ⟨rfl, h1⟩
  have HB1 := Lib.hid h1
  have HE1 := Lib.hid (HXB.out.trans (h1.mono (by have := HXS.out; omega)))
  obtain ⟨p0, p1, p2, p3, p4, p5, p6, p7, p8⟩ := CC.out w1 h1
  clear h1 C0
  cases q with
  | false =>
    clear C1 CC
    go_wp2
    go_ret
    exact ⟨rfl, HE1.out⟩
  | true =>
    have D1 := Lib.hid (C1.out (by first | rfl | trivial) w1 HB1.out)
    clear C1 CC
    go_wp2_with fail
    with_reducible refine D1.out.mono ?_
    rintro e w2 ⟨rfl, h2⟩
    have HE2 := Lib.hid (HE1.out.trans (h2.mono HE1.out.size))
    clear h2 D1 p0 p1 p2 p3 p4 p5 p6 p7 p8
    go_wp2
    go_ret
    exact ⟨rfl, HE2.out⟩

set_option maxHeartbeats 2000000 in
set_option maxRecDepth 100000 in
theorem sizeR_any {w : World} {m : Mo} {v : Vm} (h : IsMo w (· < w.heap.size) m v) :
    Calls Tryd.prog 15 #[.agg v.arr] w fun e w' => e = .returned (.int .i64 (if rightM m = true then sumC m.funcs else 0)) ∧ Below w.heap.size w w' := by
  obtain ⟨X, hX⟩ : ∃ X : World, X = w.alloc (.cells #[v.g, v.s, v.c, v.l, v.i, v.o, v.h, v.f, v.t] 27) := ⟨_, rfl⟩
  have hxb : Below w.heap.size w X := by rw [hX]; exact (Below.refl _ w).alloc (Nat.le_refl _) _
  have hx1 : MoBlk X w.heap.size v := by rw [hX]; exact MoBlk.grow
  have hxs : X.heap.size = w.heap.size + 1 := by rw [hX, asz]
  have hi : ∀ wx, Below X.heap.size X wx → IsMo wx (· < wx.heap.size) m v := fun wx hb => h.grow (hxb.trans (hb.mono (by omega)))
  obtain ⟨q, hq⟩ : ∃ q, q = rightM m := ⟨_, rfl⟩
  have C0 := Lib.hid (right_any (hi X (Below.refl _ _)))
  have C1 : Hid (q = true → ∀ wx, Below X.heap.size X wx → Calls Tryd.prog 34 #[.agg v.arr] wx fun e w' => e = .returned (.int .i64 (sumC m.funcs)) ∧ Below wx.heap.size wx w') := Lib.hid (fun hr wx hb => by
    rw [hq] at hr
    unfold rightM at hr
    simp only [Bool.and_eq_true] at hr
    exact size_any (hi wx hb) (funcsM_fns hr.1.2).2.1)
  rw [← hq] at C0 ⊢
  simp only [Vm.arr] at C0 C1 ⊢
  have CC := Lib.hid (fun wx (hb : Below X.heap.size X wx) => (hx1.below hb (by omega)).all)
  have HX := Lib.hid hX
  have HXB := Lib.hid hxb
  have HXS := Lib.hid hxs
  clear hX hxb hx1 hxs hi hq h
  go_enter Tryd.func15, Tryd.ntmps15
  go_wp2_with fail
  rw [← HX.out]
  with_reducible refine C0.out.mono ?_
  rintro e w1 ⟨rfl, h1⟩
  have HB1 := Lib.hid h1
  have HE1 := Lib.hid (HXB.out.trans (h1.mono (by have := HXS.out; omega)))
  obtain ⟨p0, p1, p2, p3, p4, p5, p6, p7, p8⟩ := CC.out w1 h1
  clear h1 C0
  cases q with
  | false =>
    clear C1 CC
    go_wp2
    go_ret
    exact ⟨rfl, HE1.out⟩
  | true =>
    have D1 := Lib.hid (C1.out (by first | rfl | trivial) w1 HB1.out)
    clear C1 CC
    go_wp2_with fail
    with_reducible refine D1.out.mono ?_
    rintro e w2 ⟨rfl, h2⟩
    have HE2 := Lib.hid (HE1.out.trans (h2.mono HE1.out.size))
    clear h2 D1 p0 p1 p2 p3 p4 p5 p6 p7 p8
    go_wp2
    go_ret
    exact ⟨rfl, HE2.out⟩

end Go.Proofs.YtgohnlcgidmlfaaDoor
