/- The document's own Right. -/
import Derived.Test.YtgohnlcgidmlfaaDoorMgc
import Derived.Test.YtgohnlcgidmlfaaDoorMex
import Derived.Deep.RegionHeld3
set_option linter.unusedVariables false
set_option linter.unusedSimpArgs false
set_option maxRecDepth 100000
namespace Go.Proofs.YtgohnlcgidmlfaaDoor
open Go.RowKit

theorem right_parts {m : Mo} (h : (partsM m && decide (1 ≤ m.funcs.length) && decide (m.funcs.length ≤ 12) && decide (m.threads.length ≤ 4)) = false) : rightM m = false := by
  unfold rightM
  cases hp : partsM m with
  | false => simp
  | true =>
    have hf : funcsM m = false := by
      rw [hp] at h
      unfold funcsM
      cases hr : rg 1 12 (m.funcs.length : Int) with
      | false => simp
      | true =>
        have h1 := rg_iff.1 hr
        have h2 : decide (m.threads.length ≤ 4) = false := by
          have a1 : decide (1 ≤ m.funcs.length) = true := decide_eq_true (by omega)
          have a2 : decide (m.funcs.length ≤ 12) = true := decide_eq_true (by omega)
          rw [a1, a2] at h
          simpa using h
        rw [h2]
        simp
    rw [hf]
    simp
theorem right_fn {m : Mo} {f : Fn} (hf : f ∈ m.funcs) (h : fnB f = false) : rightM m = false := by
  cases hr : rightM m with
  | false => rfl
  | true =>
    have := (right_all hr).1 f hf
    rw [h] at this
    exact this.symm
theorem right_th {m : Mo} {x : Int} (hx : x ∈ m.threads) (h : stB m x = false) : rightM m = false := by
  cases hr : rightM m with
  | false => rfl
  | true =>
    have := (right_all hr).2.1 x hx
    rw [h] at this
    exact this.symm
theorem right_op {m : Mo} {f : Fn} {O : Opx} (hf : f ∈ m.funcs) (hO : O ∈ f.code) (h : opB m f (sumS m.globals) O = false) : rightM m = false := by
  cases hr : rightM m with
  | false => rfl
  | true =>
    have := (right_all hr).2.2 f hf O hO
    rw [h] at this
    exact this.symm
theorem sumC_mem {f : Fn} : ∀ {fs : List Fn}, f ∈ fs → (f.code.length : Int) ≤ sumC fs
  | g :: fs, h => by
    rw [sumC]
    have h0 : 0 ≤ sumC fs := by rw [← sumN_c]; omega
    rcases List.mem_cons.1 h with rfl | h
    · omega
    · have := sumC_mem h; omega
theorem right_long {m : Mo} {f : Fn} (hf : f ∈ m.funcs) (h : 4096 < f.code.length) : rightM m = false := by
  cases hr : rightM m with
  | false => rfl
  | true =>
    have h1 := (rightP hr).sum
    have h2 := sumC_mem hf
    rw [← sumN_c] at h2
    omega
theorem sumC_app : ∀ (a b : List Fn), sumC (a ++ b) = sumC a + sumC b
  | [], b => by simp [sumC]
  | f :: a, b => by rw [List.cons_append, sumC, sumC, sumC_app a b]; omega
theorem right_end {m : Mo} (hp : partsM m = true) (h1 : 1 ≤ m.funcs.length ∧ m.funcs.length ≤ 12) (ht : m.threads.length ≤ 4) (hf : ∀ f ∈ m.funcs, fnB f = true) (hs : ∀ x ∈ m.threads, stB m x = true) (ho : ∀ f ∈ m.funcs, ∀ O ∈ f.code, opB m f (sumS m.globals) O = true) : rightM m = decide (sumC m.funcs ≤ 4096) := by
  unfold rightM funcsM opsM
  have a1 : rg 1 12 (m.funcs.length : Int) = true := rg_iff.2 (by omega)
  have a2 : m.funcs.all fnB = true := List.all_eq_true.2 hf
  have a3 : m.threads.all (stB m) = true := List.all_eq_true.2 hs
  have a4 : (m.funcs.all fun f => f.code.all (opB m f (sumS m.globals))) = true := List.all_eq_true.2 fun f hfm => List.all_eq_true.2 (ho f hfm)
  rw [hp, a1, a2, a3, a4]
  simp [ht]

set_option maxHeartbeats 16000000 in
theorem refright_any {w : World} {m : Mo} {v : Vm} (h : IsMo w (· < w.heap.size) m v) :
    Calls Tryd.prog 12 #[.agg v.arr] w fun e w' => e = .returned (.bool (rightM m)) ∧ Below w.heap.size w w' := by
  obtain ⟨A0, c0, e0, hc0, hM0⟩ := h.g.form
  obtain ⟨n0, hn0⟩ : ∃ n, n = m.globals.length := ⟨_, rfl⟩
  rw [← hn0] at e0 hc0 hM0
  obtain ⟨A1, c1, e1, hc1, hM1⟩ := h.s.form
  obtain ⟨n1, hn1⟩ : ∃ n, n = m.structs.length := ⟨_, rfl⟩
  rw [← hn1] at e1 hc1 hM1
  obtain ⟨A2, c2, e2, hc2, hM2⟩ := h.c.form
  obtain ⟨n2, hn2⟩ : ∃ n, n = m.chans.length := ⟨_, rfl⟩
  rw [← hn2] at e2 hc2 hM2
  obtain ⟨A3, c3, e3, hc3, hM3⟩ := h.l.form
  obtain ⟨n3, hn3⟩ : ∃ n, n = m.locks.length := ⟨_, rfl⟩
  rw [← hn3] at e3 hc3 hM3
  obtain ⟨A4, c4, e4, hc4, hM4⟩ := h.i.form
  obtain ⟨n4, hn4⟩ : ∃ n, n = m.inputs.length := ⟨_, rfl⟩
  rw [← hn4] at e4 hc4 hM4
  obtain ⟨A5, c5, e5, hc5, hM5⟩ := h.o.form
  obtain ⟨n5, hn5⟩ : ∃ n, n = m.sinks.length := ⟨_, rfl⟩
  rw [← hn5] at e5 hc5 hM5
  obtain ⟨A6, c6, e6, hc6, hM6⟩ := h.h.form
  obtain ⟨n6, hn6⟩ : ∃ n, n = m.hatches.length := ⟨_, rfl⟩
  rw [← hn6] at e6 hc6 hM6
  obtain ⟨A7, c7, e7, hc7, hM7⟩ := h.f.form
  obtain ⟨n7, hn7⟩ : ∃ n, n = m.funcs.length := ⟨_, rfl⟩
  rw [← hn7] at e7 hc7 hM7
  obtain ⟨A8, c8, e8, hc8, hM8⟩ := h.t.form
  obtain ⟨n8, hn8⟩ : ∃ n, n = m.threads.length := ⟨_, rfl⟩
  rw [← hn8] at e8 hc8 hM8
  have hvv : v = ⟨.slice A0 n0 c0, .slice A1 n1 c1, .slice A2 n2 c2, .slice A3 n3 c3, .slice A4 n4 c4, .slice A5 n5 c5, .slice A6 n6 c6, .slice A7 n7 c7, .slice A8 n8 c8⟩ := by cases v; dsimp only at e0 e1 e2 e3 e4 e5 e6 e7 e8; rw [e0, e1, e2, e3, e4, e5, e6, e7, e8]
  have harr : v.arr = #[.slice A0 n0 c0, .slice A1 n1 c1, .slice A2 n2 c2, .slice A3 n3 c3, .slice A4 n4 c4, .slice A5 n5 c5, .slice A6 n6 c6, .slice A7 n7 c7, .slice A8 n8 c8] := by rw [hvv]; rfl
  rw [harr]
  obtain ⟨X, hX⟩ : ∃ X : World, X = w.alloc (.cells #[.slice A0 n0 c0, .slice A1 n1 c1, .slice A2 n2 c2, .slice A3 n3 c3, .slice A4 n4 c4, .slice A5 n5 c5, .slice A6 n6 c6, .slice A7 n7 c7, .slice A8 n8 c8] 27) := ⟨_, rfl⟩
  obtain ⟨G, hG⟩ : ∃ G, G = w.heap.size := ⟨_, rfl⟩
  have hxs : X.heap.size = G + 1 := by rw [hX, asz, hG]
  have hxb : Below w.heap.size w X := by rw [hX]; exact (Below.refl _ w).alloc (Nat.le_refl _) _
  have b0 : X.heap[G]? = some (.cells #[.slice A0 n0 c0, .slice A1 n1 c1, .slice A2 n2 c2, .slice A3 n3 c3, .slice A4 n4 c4, .slice A5 n5 c5, .slice A6 n6 c6, .slice A7 n7 c7, .slice A8 n8 c8] 27 (0, 0)) := by rw [hX, hG]; exact heap_alloc_new _ _
  have KX : Hid (∀ wx, Below X.heap.size X wx → wx.cell? ⟨G, 0, none⟩ = some (.slice A0 n0 c0) ∧ wx.cell? ⟨G, 1, none⟩ = some (.slice A1 n1 c1) ∧ wx.cell? ⟨G, 2, none⟩ = some (.slice A2 n2 c2) ∧ wx.cell? ⟨G, 3, none⟩ = some (.slice A3 n3 c3) ∧ wx.cell? ⟨G, 4, none⟩ = some (.slice A4 n4 c4) ∧ wx.cell? ⟨G, 5, none⟩ = some (.slice A5 n5 c5) ∧ wx.cell? ⟨G, 6, none⟩ = some (.slice A6 n6 c6) ∧ wx.cell? ⟨G, 7, none⟩ = some (.slice A7 n7 c7) ∧ wx.cell? ⟨G, 8, none⟩ = some (.slice A8 n8 c8)) := Lib.hid (fun wx hb => by
    have a0 := fun j => cell_of_row wx G j _ _ (0, 0) ((hb.block G (by omega)).trans b0)
    exact ⟨a0 0, a0 1, a0 2, a0 3, a0 4, a0 5, a0 6, a0 7, a0 8⟩)
  obtain ⟨q0, hq0⟩ : ∃ q, q = szB m.globals 16 1 2 := ⟨_, rfl⟩
  obtain ⟨q1, hq1⟩ : ∃ q, q = szB m.structs 4 0 16 := ⟨_, rfl⟩
  obtain ⟨q2, hq2⟩ : ∃ q, q = szB m.chans 4 1 4 := ⟨_, rfl⟩
  have HS0 := Lib.hid (show ∀ wx, Below w.heap.size w wx → Calls Tryd.prog 30 #[.slice A0 n0 c0, .int .i64 16, .int .i64 1, .int .i64 2] wx fun e w' => e = .returned (.bool q0) ∧ w' = wx from fun wx hb => by
    have := sized_any (h.grow hb).g 16 1 2
    rw [e0, ← hq0] at this
    exact this)
  have HS1 := Lib.hid (show ∀ wx, Below w.heap.size w wx → Calls Tryd.prog 30 #[.slice A1 n1 c1, .int .i64 4, .int .i64 0, .int .i64 16] wx fun e w' => e = .returned (.bool q1) ∧ w' = wx from fun wx hb => by
    have := sized_any (h.grow hb).s 4 0 16
    rw [e1, ← hq1] at this
    exact this)
  have HS2 := Lib.hid (show ∀ wx, Below w.heap.size w wx → Calls Tryd.prog 30 #[.slice A2 n2 c2, .int .i64 4, .int .i64 1, .int .i64 4] wx fun e w' => e = .returned (.bool q2) ∧ w' = wx from fun wx hb => by
    have := sized_any (h.grow hb).c 4 1 4
    rw [e2, ← hq2] at this
    exact this)
  have HPM : Hid (partsM m = (q0 && q1 && q2 && decide (n3 ≤ 8) && decide (n4 ≤ 8) && decide (n5 ≤ 4) && decide (n6 ≤ 8))) := Lib.hid (by rw [hq0, hq1, hq2, hn3, hn4, hn5, hn6]; rfl)
  obtain ⟨fb, hfb⟩ : ∃ fb, fb = rightM m := ⟨_, rfl⟩
  have HFB := Lib.hid hfb
  rw [← hfb]
  have HNO : Hid ((partsM m && decide (1 ≤ m.funcs.length) && decide (m.funcs.length ≤ 12) && decide (m.threads.length ≤ 4)) = false → fb = false) := Lib.hid (fun h => by rw [hfb]; exact right_parts h)
  have HX := Lib.hid hX
  have HG := Lib.hid hG
  have HXS := Lib.hid hxs
  have HXB := Lib.hid hxb
  have HIS := Lib.hid h
  have HARR := Lib.hid harr
  have HE7 := Lib.hid e7
  have HE8 := Lib.hid e8
  have HN7 := Lib.hid hn7
  have HN8 := Lib.hid hn8
  clear hX hG hxs hxb h e0 e1 e2 e3 e4 e5 e6 e7 e8 hn0 hn1 hn2 hn3 hn4 hn5 hn6 hn7 hn8 hvv harr b0 hq0 hq1 hq2 hfb
  go_enter Tryd.func12, Tryd.ntmps12
  go_upto_region 1 with (fail)
  rw [← HX.out, ← HG.out]
  obtain ⟨k0, k1, k2, k3, k4, k5, k6, k7, k8⟩ := KX.out X (Below.refl _ _)
  cases q0 with
  | false =>
    have HF0 := Lib.hid (HNO.out (by rw [HPM.out]; simp))
    go_wp2_with fail
    refine (HS0.out X HXB.out).mono ?_
    (rintro e w1 ⟨rfl, hw⟩; rw [hw]; clear hw)
    go_wp2
    go_ret
    exact ⟨rbool HF0.out.symm, HXB.out⟩
  | true =>
    cases q1 with
    | false =>
      have HF0 := Lib.hid (HNO.out (by rw [HPM.out]; simp))
      go_wp2_with fail
      refine (HS0.out X HXB.out).mono ?_
      (rintro e w1 ⟨rfl, hw⟩; rw [hw]; clear hw)
      go_wp2_with fail
      refine (HS1.out _ HXB.out).mono ?_
      (rintro e w2 ⟨rfl, hw⟩; rw [hw]; clear hw)
      go_wp2
      go_ret
      exact ⟨rbool HF0.out.symm, HXB.out⟩
    | true =>
      cases q2 with
      | false =>
        have HF0 := Lib.hid (HNO.out (by rw [HPM.out]; simp))
        go_wp2_with fail
        refine (HS0.out X HXB.out).mono ?_
        (rintro e w1 ⟨rfl, hw⟩; rw [hw]; clear hw)
        go_wp2_with fail
        refine (HS1.out _ HXB.out).mono ?_
        (rintro e w2 ⟨rfl, hw⟩; rw [hw]; clear hw)
        go_wp2_with fail
        refine (HS2.out _ HXB.out).mono ?_
        (rintro e w3 ⟨rfl, hw⟩; rw [hw]; clear hw)
        go_wp2
        go_ret
        exact ⟨rbool HF0.out.symm, HXB.out⟩
      | true =>
        by_cases hall : n3 ≤ 8 ∧ n4 ≤ 8 ∧ n5 ≤ 4 ∧ n6 ≤ 8 ∧ 1 ≤ n7 ∧ n7 ≤ 12 ∧ n8 ≤ 4
        · obtain ⟨a3, a4, a5, a6, a7, a7', a8⟩ := hall
          have HPT : Hid (partsM m = true) := Lib.hid (by rw [HPM.out]; simp [a3, a4, a5, a6])
          go_wp2_with fail
          refine (HS0.out X HXB.out).mono ?_
          (rintro e w1 ⟨rfl, hw⟩; rw [hw]; clear hw)
          go_wp2_with fail
          refine (HS1.out _ HXB.out).mono ?_
          (rintro e w2 ⟨rfl, hw⟩; rw [hw]; clear hw)
          go_wp2_with fail
          refine (HS2.out _ HXB.out).mono ?_
          (rintro e w3 ⟨rfl, hw⟩; rw [hw]; clear hw)
          clear HS0 HS1 HS2 HPM HNO
          go_wp2
          clear k0 k1 k2 k3 k4 k5 k6 k7 k8
          go_loopw [3, 4] (fun nv i wr => ∃ (j : Nat) (nn : Int), j ≤ n7 ∧ i = .int .i64 (j : Int) ∧ nv = .int .i64 nn ∧ Hid (nn = sumC (m.funcs.take j)) ∧ 0 ≤ nn ∧ nn ≤ 4096 * (j : Int) ∧ Hid (∀ f ∈ m.funcs.take j, fnB f = true) ∧ Hid (Below X.heap.size X wr)) (fun _ i _ => n7 - (intOf i).toNat)
          case atStart => exact ⟨0, 0, Nat.zero_le _, rfl, rfl, Lib.hid rfl, by omega, by omega, Lib.hid (by simp), Lib.hid (Below.refl _ _)⟩
          case round =>
            obtain ⟨wo, rfl⟩ : ∃ wo : World, wo = wr := ⟨_, rfl⟩
            obtain ⟨j, nn, hj, rfl, rfl, HSU, hn0, hn1, HFA, HBL⟩ := hrel
            have HEO := Lib.hid (HXB.out.trans (HBL.out.mono (by have := HXS.out; have := HG.out; omega)))
            obtain ⟨k0, k1, k2, k3, k4, k5, k6, k7, k8⟩ := KX.out wo HBL.out
            by_cases hlt : j < n7
            · have hjf : j < m.funcs.length := by rw [← HN7.out]; exact hlt
              have hfl := HIS.out.f
              rw [HE7.out] at hfl
              obtain ⟨b, off, cvq, rfl, hbS, hatq, hcq, hfi⟩ := hfl.fn j hjf
              have hatw := hatq.keep (HEO.out.block b hbS)
              have hmem := List.getElem_mem hjf
              obtain ⟨Y, hY⟩ : ∃ y, y = m.funcs[j] := ⟨_, rfl⟩
              have htk : m.funcs.take (j + 1) = m.funcs.take j ++ [Y] := by rw [List.take_add_one, List.getElem?_eq_getElem hjf, Option.toList_some, hY]
              rw [← hY] at hatw hcq hmem hfi
              obtain ⟨AQ, cQ, rfl, -, hMQ⟩ := hcq.form
              obtain ⟨nQ, hnQ⟩ : ∃ n, n = Y.code.length := ⟨_, rfl⟩
              rw [← hnQ] at hatw hMQ
              obtain ⟨r0, r1, r2, r3, r4⟩ := hatw
              have HTK := Lib.hid htk
              have HNQ := Lib.hid hnQ
              have HBAD : Hid (fnB Y = false ∨ 4096 < nQ → fb = false) := Lib.hid (fun hh => by
                rw [HFB.out]
                rcases hh with hh | hh
                · exact right_fn hmem hh
                · exact right_long hmem (by rw [← hnQ]; exact hh))
              have HBZ : Hid (Below X.heap.size X (wo.alloc (.cells #[.string (bs Y.name), .int .i64 Y.params, .int .i64 Y.regs, .int .i64 Y.result, .slice AQ nQ cQ] 39))) := Lib.hid (HBL.out.alloc HBL.out.size _)
              have HEZ : Hid (Below w.heap.size w (wo.alloc (.cells #[.string (bs Y.name), .int .i64 Y.params, .int .i64 Y.regs, .int .i64 Y.result, .slice AQ nQ cQ] 39))) := Lib.hid (HEO.out.alloc HEO.out.size _)
              clear hatq hfl hmem hcq htk hnQ hY hfi k0 k1 k2 k3 k4 k5 k6 k8
              by_cases hok : (0 ≤ Y.regs ∧ Y.regs ≤ 1024) ∧ (0 ≤ Y.params ∧ Y.params ≤ Y.regs) ∧ (0 ≤ Y.result ∧ Y.result ≤ 2) ∧ 1 ≤ nQ ∧ nQ ≤ 4096
              · have HYB : Hid (fnB Y = true) := Lib.hid (by
                  have h0 : ¬ Y.code.length = 0 := by rw [← HNQ.out]; omega
                  unfold fnB
                  rw [rg_true hok.1, rg_true hok.2.1, rg_true hok.2.2.1, decide_eq_false h0]
                  rfl)
                have HSU2 : Hid (nn + (nQ : Int) = sumC (m.funcs.take (j + 1))) := Lib.hid (by rw [HTK.out, sumC_app, HSU.out, HNQ.out]; simp [sumC])
                have HFA2 : Hid (∀ f ∈ m.funcs.take (j + 1), fnB f = true) := Lib.hid (fun f hf => by
                  rw [HTK.out] at hf
                  rcases List.mem_append.1 hf with hf | hf
                  · exact HFA.out f hf
                  · simp at hf; subst hf; exact HYB.out)
                obtain ⟨⟨u1, u2⟩, ⟨u3, u4⟩, ⟨u5, u6⟩, u7, u8⟩ := hok
                have HNA : Hid (0 ≤ nn + (nQ : Int)) := Lib.hid (by omega)
                have HNB : Hid (nn + (nQ : Int) ≤ 4096 * ((j + 1 : Nat) : Int)) := Lib.hid (by omega)
                have x1 := IntWalk.i64_in (nn + (nQ : Int)) (by omega)
                go_wp2
                go_roundw
                case rel => exact ⟨j + 1, _, by omega, by go_num, rfl, HSU2, HNA.out, HNB.out, HFA2, HBZ⟩
                case measure => simp [intOf]; omega
              · have HF0 := Lib.hid (HBAD.out (by
                  by_cases h4 : 4096 < nQ
                  · exact .inr h4
                  · refine .inl ?_
                    unfold fnB
                    cases hh : (rg 0 1024 Y.regs && rg 0 Y.regs Y.params && rg 0 2 Y.result && !decide (Y.code.length = 0)) with
                    | false => rfl
                    | true =>
                      simp [rg, ← HNQ.out] at hh
                      exact absurd (by omega) hok))
                have hbad : Y.regs < 0 ∨ (0 ≤ Y.regs ∧ 1024 < Y.regs) ∨ ((0 ≤ Y.regs ∧ Y.regs ≤ 1024) ∧ Y.params < 0) ∨ ((0 ≤ Y.regs ∧ Y.regs ≤ 1024) ∧ 0 ≤ Y.params ∧ Y.regs < Y.params) ∨ ((0 ≤ Y.regs ∧ Y.regs ≤ 1024) ∧ (0 ≤ Y.params ∧ Y.params ≤ Y.regs) ∧ Y.result < 0) ∨ ((0 ≤ Y.regs ∧ Y.regs ≤ 1024) ∧ (0 ≤ Y.params ∧ Y.params ≤ Y.regs) ∧ 0 ≤ Y.result ∧ 2 < Y.result) ∨ ((0 ≤ Y.regs ∧ Y.regs ≤ 1024) ∧ (0 ≤ Y.params ∧ Y.params ≤ Y.regs) ∧ (0 ≤ Y.result ∧ Y.result ≤ 2) ∧ nQ < 1) ∨ ((0 ≤ Y.regs ∧ Y.regs ≤ 1024) ∧ (0 ≤ Y.params ∧ Y.params ≤ Y.regs) ∧ (0 ≤ Y.result ∧ Y.result ≤ 2) ∧ 1 ≤ nQ ∧ 4096 < nQ) := by omega
                clear hok HBAD
                rcases hbad with h | ⟨u1, h⟩ | ⟨⟨u1, u2⟩, h⟩ | ⟨⟨u1, u2⟩, u3, h⟩ | ⟨⟨u1, u2⟩, ⟨u3, u4⟩, h⟩ | ⟨⟨u1, u2⟩, ⟨u3, u4⟩, u5, h⟩ | ⟨⟨u1, u2⟩, ⟨u3, u4⟩, ⟨u5, u6⟩, h⟩ | ⟨⟨u1, u2⟩, ⟨u3, u4⟩, ⟨u5, u6⟩, u7, h⟩
                all_goals
                  go_wp2
                  go_ret
                  exact ⟨rbool HF0.out.symm, HEZ.out⟩
            · have HFT : Hid (∀ f ∈ m.funcs, fnB f = true) := Lib.hid (by
                have h1 := HFA.out
                rw [List.take_of_length_le (by rw [← HN7.out]; omega)] at h1
                exact h1)
              have HST : Hid (nn = sumC m.funcs) := Lib.hid (by
                have h1 := HSU.out
                rw [List.take_of_length_le (by rw [← HN7.out]; omega)] at h1
                exact h1)
              clear HFA HSU
              go_wp2
              go_loop [6] (fun i => ∃ t : Nat, t ≤ n8 ∧ i = .int .i64 (t : Int) ∧ Hid (∀ x ∈ m.threads.take t, stB m x = true)) (fun i => n8 - (intOf i).toNat)
              case atStart => exact ⟨0, Nat.zero_le _, rfl, Lib.hid (by simp)⟩
              case round =>
                obtain ⟨t, ht, rfl, HTA⟩ := hrel
                by_cases hlt2 : t < n8
                · have hth : t < m.threads.length := by rw [← HN8.out]; exact hlt2
                  have htl := HIS.out.t
                  rw [HE8.out] at htl
                  obtain ⟨b2, off2, rfl, hbS2, rr0, hix⟩ := htl.int t hth
                  have rr := (HEO.out.cell (p := ⟨b2, off2 + t, none⟩) hbS2).trans rr0
                  have hmem := List.getElem_mem hth
                  obtain ⟨x, hx⟩ : ∃ x, x = m.threads[t] := ⟨_, rfl⟩
                  have htk : m.threads.take (t + 1) = m.threads.take t ++ [x] := by rw [List.take_add_one, List.getElem?_eq_getElem hth, Option.toList_some, hx]
                  rw [← hx] at rr hmem
                  have HTK := Lib.hid htk
                  have HBAD : Hid (stB m x = false → fb = false) := Lib.hid (fun hh => by rw [HFB.out]; exact right_th hmem hh)
                  clear rr0 hx htk hmem hix htl
                  by_cases hx0 : x < 0
                  · have HF0 := Lib.hid (HBAD.out (by unfold stB; simp [rg]; omega))
                    go_wp2
                    go_ret
                    exact ⟨rbool HF0.out.symm, HEO.out⟩
                  · by_cases hx1 : (n7 : Int) ≤ x
                    · have HF0 := Lib.hid (HBAD.out (by unfold stB; rw [← HN7.out]; simp [rg]; omega))
                      go_wp2
                      go_ret
                      exact ⟨rbool HF0.out.symm, HEO.out⟩
                    · obtain ⟨q, hq⟩ := Int.eq_ofNat_of_zero_le (show 0 ≤ x by omega)
                      subst hq
                      have hqn : q < n7 := by omega
                      have hqf : q < m.funcs.length := by rw [← HN7.out]; exact hqn
                      have hfl := HIS.out.f
                      rw [HE7.out] at hfl
                      obtain ⟨b, off, cvq, rfl, hbS, hatq, hcq, hfi⟩ := hfl.fn q hqf
                      have r1 := (hatq.keep (HEO.out.block b hbS)).c1
                      have HSB : Hid (stB m (q : Int) = decide (m.funcs[q].params = 0)) := Lib.hid (by
                        unfold stB
                        rw [Int.toNat_natCast, List.getElem?_eq_getElem hqf, rg_true (by omega)]
                        simp)
                      obtain ⟨pp, hpp⟩ : ∃ pp, pp = m.funcs[q].params := ⟨_, rfl⟩
                      rw [← hpp] at r1 HSB
                      clear hpp hatq hcq hfi hfl hqf
                      by_cases hp0 : pp = 0
                      · have HTA2 : Hid (∀ x ∈ m.threads.take (t + 1), stB m x = true) := Lib.hid (fun y hy => by
                          rw [HTK.out] at hy
                          rcases List.mem_append.1 hy with hy | hy
                          · exact HTA.out y hy
                          · simp at hy; subst hy; rw [HSB.out, hp0]; rfl)
                        rw [hp0] at r1
                        go_wp2
                        go_round
                        case rel => exact ⟨t + 1, by omega, by go_num, HTA2⟩
                        case measure => simp [intOf]; omega
                      · have HF0 := Lib.hid (HBAD.out (by rw [HSB.out]; simpa using hp0))
                        have q1 : (pp != 0) = true := by simpa using hp0
                        have q2 : (pp == 0) = false := by simpa using hp0
                        go_wp2
                        go_ret
                        exact ⟨rbool HF0.out.symm, HEO.out⟩
                · have HTT : Hid (∀ x ∈ m.threads, stB m x = true) := Lib.hid (by
                    have h1 := HTA.out
                    rw [List.take_of_length_le (by rw [← HN8.out]; omega)] at h1
                    exact h1)
                  clear HTA
                  go_wp2
                  clear k0 k1 k2 k3 k4 k5 k6 k7 k8
                  go_loopw [8] (fun i wr => ∃ j1 : Nat, j1 ≤ n7 ∧ i = .int .i64 (j1 : Int) ∧ Hid (∀ f ∈ m.funcs.take j1, ∀ O ∈ f.code, opB m f (sumS m.globals) O = true) ∧ Hid (Below X.heap.size X wr)) (fun i _ => n7 - (intOf i).toNat)
                  case atStart => exact ⟨0, Nat.zero_le _, rfl, Lib.hid (by simp), HBL⟩
                  case round =>
                    obtain ⟨wp, rfl⟩ : ∃ wp : World, wp = wr := ⟨_, rfl⟩
                    obtain ⟨j1, hj1, rfl, HOA, HBP⟩ := hrel
                    have HEP := Lib.hid (HXB.out.trans (HBP.out.mono (by have := HXS.out; have := HG.out; omega)))
                    obtain ⟨k0, k1, k2, k3, k4, k5, k6, k7, k8⟩ := KX.out wp HBP.out
                    by_cases hlt3 : j1 < n7
                    · have hjf : j1 < m.funcs.length := by rw [← HN7.out]; exact hlt3
                      have hfl := HIS.out.f
                      rw [HE7.out] at hfl
                      obtain ⟨b, off, cvq, rfl, hbS, hatq, hcq, hfi⟩ := hfl.fn j1 hjf
                      have hmem := List.getElem_mem hjf
                      obtain ⟨Y, hY⟩ : ∃ y, y = m.funcs[j1] := ⟨_, rfl⟩
                      have htk : m.funcs.take (j1 + 1) = m.funcs.take j1 ++ [Y] := by rw [List.take_add_one, List.getElem?_eq_getElem hjf, Option.toList_some, hY]
                      rw [← hY] at hatq hcq hmem hfi
                      obtain ⟨AQ, cQ, rfl, -, hMQ⟩ := hcq.form
                      obtain ⟨nQ, hnQ⟩ : ∃ n, n = Y.code.length := ⟨_, rfl⟩
                      rw [← hnQ] at hatq hMQ hcq
                      have HTK := Lib.hid htk
                      have HNQ := Lib.hid hnQ
                      have HATQ := Lib.hid hatq
                      have HCQ := Lib.hid hcq
                      have HMEM := Lib.hid hmem
                      have HFI := Lib.hid hfi
                      clear hfl hmem htk hnQ hY hfi hatq hcq
                      go_wp2
                      clear k0 k1 k2 k3 k4 k5 k6 k7 k8
                      go_loopw [9] (fun i wr => ∃ k : Nat, k ≤ nQ ∧ i = .int .i64 (k : Int) ∧ Hid (∀ O ∈ Y.code.take k, opB m Y (sumS m.globals) O = true) ∧ Hid (Below X.heap.size X wr)) (fun i _ => nQ - (intOf i).toNat)
                      case atStart => exact ⟨0, Nat.zero_le _, rfl, Lib.hid (by simp), HBP⟩
                      case round =>
                        obtain ⟨wi, rfl⟩ : ∃ wi : World, wi = wr := ⟨_, rfl⟩
                        obtain ⟨k, hk, rfl, HOK, HBI⟩ := hrel
                        have HEI := Lib.hid (HXB.out.trans (HBI.out.mono (by have := HXS.out; have := HG.out; omega)))
                        by_cases hlt4 : k < nQ
                        · have hkc : k < Y.code.length := by rw [← HNQ.out]; exact hlt4
                          obtain ⟨C, off9, vz, rfl, hCS, hatz, hargz, hinz⟩ := HCQ.out.op k hkc
                          have hmem := List.getElem_mem hkc
                          obtain ⟨Z, hZ⟩ : ∃ z, z = Y.code[k] := ⟨_, rfl⟩
                          have htk4 : Y.code.take (k + 1) = Y.code.take k ++ [Z] := by rw [List.take_add_one, List.getElem?_eq_getElem hkc, Option.toList_some, hZ]
                          rw [← hZ] at hatz hargz hinz hmem
                          obtain ⟨AZ, cZ, rfl, -, -⟩ := hargz.form
                          obtain ⟨nZ, hnZ⟩ : ∃ n, n = Z.args.length := ⟨_, rfl⟩
                          rw [← hnZ] at hatz hargz
                          have HTK4 := Lib.hid htk4
                          obtain ⟨qb, hqb⟩ : ∃ q, q = opB m Y (sumS m.globals) Z := ⟨_, rfl⟩
                          have HQB := Lib.hid hqb
                          have HBAD : Hid (qb = false → fb = false) := Lib.hid (fun hh => by rw [HFB.out]; exact right_op HMEM.out hmem (by rw [← hqb]; exact hh))
                          have KK : Hid (∀ W, Below X.heap.size X W → (W.cell? ⟨G, 0, none⟩ = some (.slice A0 n0 c0) ∧ W.cell? ⟨G, 1, none⟩ = some (.slice A1 n1 c1) ∧ W.cell? ⟨G, 2, none⟩ = some (.slice A2 n2 c2) ∧ W.cell? ⟨G, 3, none⟩ = some (.slice A3 n3 c3) ∧ W.cell? ⟨G, 4, none⟩ = some (.slice A4 n4 c4) ∧ W.cell? ⟨G, 5, none⟩ = some (.slice A5 n5 c5) ∧ W.cell? ⟨G, 6, none⟩ = some (.slice A6 n6 c6) ∧ W.cell? ⟨G, 7, none⟩ = some (.slice (some ⟨b, off, none⟩) n7 c7) ∧ W.cell? ⟨G, 8, none⟩ = some (.slice A8 n8 c8)) ∧ (W.cell? ⟨b, off + j1 * 5, none⟩ = some (.string (bs Y.name)) ∧ W.cell? ⟨b, off + j1 * 5 + 1, none⟩ = some (.int .i64 Y.params) ∧ W.cell? ⟨b, off + j1 * 5 + 2, none⟩ = some (.int .i64 Y.regs) ∧ W.cell? ⟨b, off + j1 * 5 + 3, none⟩ = some (.int .i64 Y.result) ∧ W.cell? ⟨b, off + j1 * 5 + 4, none⟩ = some (.slice (some ⟨C, off9, none⟩) nQ cQ)) ∧ (W.cell? ⟨C, off9 + k * 12, none⟩ = some (.int .i64 Z.kind) ∧ W.cell? ⟨C, off9 + k * 12 + 1, none⟩ = some (.int .i64 Z.a) ∧ W.cell? ⟨C, off9 + k * 12 + 2, none⟩ = some (.int .i64 Z.b) ∧ W.cell? ⟨C, off9 + k * 12 + 3, none⟩ = some (.int .i64 Z.c) ∧ W.cell? ⟨C, off9 + k * 12 + 4, none⟩ = some (.int .i64 Z.d) ∧ W.cell? ⟨C, off9 + k * 12 + 5, none⟩ = some (.int .i64 Z.e) ∧ W.cell? ⟨C, off9 + k * 12 + 6, none⟩ = some (.int .i64 Z.f) ∧ W.cell? ⟨C, off9 + k * 12 + 7, none⟩ = some (.int .i64 Z.k) ∧ W.cell? ⟨C, off9 + k * 12 + 8, none⟩ = some (.slice AZ nZ cZ) ∧ W.cell? ⟨C, off9 + k * 12 + 9, none⟩ = some (.int .i64 Z.next) ∧ W.cell? ⟨C, off9 + k * 12 + 10, none⟩ = some (.int .i64 Z.els) ∧ W.cell? ⟨C, off9 + k * 12 + 11, none⟩ = some (.int .i64 Z.pl))) := Lib.hid (fun W hb => by
                            have hbw : Below w.heap.size w W := HXB.out.trans (hb.mono (by have := HXS.out; have := HG.out; omega))
                            have h1 := HATQ.out.keep (hbw.block b hbS)
                            have h2 := hatz.keep (hbw.block C hCS)
                            exact ⟨KX.out W hb, ⟨h1.c0, h1.c1, h1.c2, h1.c3, h1.c4⟩, ⟨h2.c0, h2.c1, h2.c2, h2.c3, h2.c4, h2.c5, h2.c6, h2.c7, h2.c8, h2.c9, h2.c10, h2.c11⟩⟩)
                          have HOP : Hid (∀ W, Below X.heap.size X W → Calls Tryd.prog 31 #[.agg #[.slice A0 n0 c0, .slice A1 n1 c1, .slice A2 n2 c2, .slice A3 n3 c3, .slice A4 n4 c4, .slice A5 n5 c5, .slice A6 n6 c6, .slice (some ⟨b, off, none⟩) n7 c7, .slice A8 n8 c8], .agg #[.string (bs Y.name), .int .i64 Y.params, .int .i64 Y.regs, .int .i64 Y.result, .slice (some ⟨C, off9, none⟩) nQ cQ], .agg #[.int .i64 Z.kind, .int .i64 Z.a, .int .i64 Z.b, .int .i64 Z.c, .int .i64 Z.d, .int .i64 Z.e, .int .i64 Z.f, .int .i64 Z.k, .slice AZ nZ cZ, .int .i64 Z.next, .int .i64 Z.els, .int .i64 Z.pl]] W fun e w' => e = .returned (.bool qb) ∧ Below W.heap.size W w') := Lib.hid (fun W hb => by
                            have hbw : Below w.heap.size w W := HXB.out.trans (hb.mono (by have := HXS.out; have := HG.out; omega))
                            have hsz := hbw.size
                            have := refop_any (F := Y) (O := Z) (HIS.out.grow hbw) (HCQ.out.keep (fun b hb => hbw.block b hb) (fun b hb => Nat.lt_of_lt_of_le hb hsz)) (hargz.keep (fun b hb => hbw.block b hb) (fun b hb => Nat.lt_of_lt_of_le hb hsz)) HFI.out hinz HPT.out (List.all_eq_true.2 HFT.out) (HFT.out Y HMEM.out)
                            rw [HARR.out, fnRow_arr, opRow_arr, ← hqb] at this
                            exact this)
                          clear hatz hargz hinz hmem hZ htk4 hnZ hqb
                          obtain ⟨⟨k0, k1, k2, k3, k4, k5, k6, k7, k8⟩, ⟨r0, r1, r2, r3, r4⟩, ⟨s0, s1, s2, s3, s4, s5, s6, s7, s8, s9, s10, s11⟩⟩ := KK.out wi HBI.out
                          have HBD : Hid (Below X.heap.size X wi.drew) := Lib.hid HBI.out.drew
                          go_wp2_with fail
                          go_region_held3 (fun W => (W.cell? ⟨G, 0, none⟩ = some (.slice A0 n0 c0) ∧ W.cell? ⟨G, 1, none⟩ = some (.slice A1 n1 c1) ∧ W.cell? ⟨G, 2, none⟩ = some (.slice A2 n2 c2) ∧ W.cell? ⟨G, 3, none⟩ = some (.slice A3 n3 c3) ∧ W.cell? ⟨G, 4, none⟩ = some (.slice A4 n4 c4) ∧ W.cell? ⟨G, 5, none⟩ = some (.slice A5 n5 c5) ∧ W.cell? ⟨G, 6, none⟩ = some (.slice A6 n6 c6) ∧ W.cell? ⟨G, 7, none⟩ = some (.slice (some ⟨b, off, none⟩) n7 c7) ∧ W.cell? ⟨G, 8, none⟩ = some (.slice A8 n8 c8)) ∧ (W.cell? ⟨b, off + j1 * 5, none⟩ = some (.string (bs Y.name)) ∧ W.cell? ⟨b, off + j1 * 5 + 1, none⟩ = some (.int .i64 Y.params) ∧ W.cell? ⟨b, off + j1 * 5 + 2, none⟩ = some (.int .i64 Y.regs) ∧ W.cell? ⟨b, off + j1 * 5 + 3, none⟩ = some (.int .i64 Y.result) ∧ W.cell? ⟨b, off + j1 * 5 + 4, none⟩ = some (.slice (some ⟨C, off9, none⟩) nQ cQ)) ∧ (W.cell? ⟨C, off9 + k * 12, none⟩ = some (.int .i64 Z.kind) ∧ W.cell? ⟨C, off9 + k * 12 + 1, none⟩ = some (.int .i64 Z.a) ∧ W.cell? ⟨C, off9 + k * 12 + 2, none⟩ = some (.int .i64 Z.b) ∧ W.cell? ⟨C, off9 + k * 12 + 3, none⟩ = some (.int .i64 Z.c) ∧ W.cell? ⟨C, off9 + k * 12 + 4, none⟩ = some (.int .i64 Z.d) ∧ W.cell? ⟨C, off9 + k * 12 + 5, none⟩ = some (.int .i64 Z.e) ∧ W.cell? ⟨C, off9 + k * 12 + 6, none⟩ = some (.int .i64 Z.f) ∧ W.cell? ⟨C, off9 + k * 12 + 7, none⟩ = some (.int .i64 Z.k) ∧ W.cell? ⟨C, off9 + k * 12 + 8, none⟩ = some (.slice AZ nZ cZ) ∧ W.cell? ⟨C, off9 + k * 12 + 9, none⟩ = some (.int .i64 Z.next) ∧ W.cell? ⟨C, off9 + k * 12 + 10, none⟩ = some (.int .i64 Z.els) ∧ W.cell? ⟨C, off9 + k * 12 + 11, none⟩ = some (.int .i64 Z.pl))) (first | with_reducible exact KK.out _ HBD.out | with_reducible exact KK.out _ HBE.out | go_keep)
                            (first
                              | (go_at_call 31; with_reducible refine (HOP.out _ HBD.out).mono ?_; (rintro e w5 ⟨rfl, hb5⟩; have HBE : Hid (Below X.heap.size X w5) := Lib.hid (HBD.out.trans (hb5.mono HBD.out.size)); clear hb5)))
                          all_goals
                            cases qb with
                            | false =>
                              have HF0 := Lib.hid (HBAD.out rfl)
                              go_wp2
                              go_ret
                              exact ⟨rbool HF0.out.symm, HXB.out.trans (HBE.out.mono (by have := HXS.out; have := HG.out; omega))⟩
                            | true =>
                              have HOK2 : Hid (∀ O ∈ Y.code.take (k + 1), opB m Y (sumS m.globals) O = true) := Lib.hid (fun O hO => by
                                rw [HTK4.out] at hO
                                rcases List.mem_append.1 hO with hO | hO
                                · exact HOK.out O hO
                                · simp at hO; subst hO; exact HQB.out.symm)
                              go_wp2
                              go_roundw
                              case rel => exact ⟨k + 1, by omega, by go_num, HOK2, HBE⟩
                              case measure => simp [intOf]; omega
                        · have HOA2 : Hid (∀ f ∈ m.funcs.take (j1 + 1), ∀ O ∈ f.code, opB m f (sumS m.globals) O = true) := Lib.hid (fun f hf => by
                            rw [HTK.out] at hf
                            rcases List.mem_append.1 hf with hf | hf
                            · exact HOA.out f hf
                            · simp at hf
                              subst hf
                              have h1 := HOK.out
                              rw [List.take_of_length_le (by rw [← HNQ.out]; omega)] at h1
                              exact h1)
                          have k7 := (KX.out wi HBI.out).2.2.2.2.2.2.2.1
                          have r4 := (HATQ.out.keep (HEI.out.block b hbS)).c4
                          go_wp2
                          go_roundw
                          case rel => exact ⟨j1 + 1, by omega, by go_num, HOA2, HBI⟩
                          case measure => simp [intOf]; omega
                    · have HEND : Hid (fb = decide (nn ≤ 4096)) := Lib.hid (by
                        have h1 := HOA.out
                        rw [List.take_of_length_le (by rw [← HN7.out]; omega)] at h1
                        rw [HFB.out, right_end HPT.out (by rw [← HN7.out]; exact ⟨a7, a7'⟩) (by rw [← HN8.out]; exact a8) HFT.out HTT.out h1, HST.out])
                      go_wp2
                      go_ret
                      exact ⟨rbool HEND.out.symm, HEP.out⟩
        · have HF0 := Lib.hid (HNO.out (by rw [HPM.out, ← HN7.out, ← HN8.out]; simp; omega))
          have hbad : 8 < n3 ∨ (n3 ≤ 8 ∧ 8 < n4) ∨ (n3 ≤ 8 ∧ n4 ≤ 8 ∧ 4 < n5) ∨ (n3 ≤ 8 ∧ n4 ≤ 8 ∧ n5 ≤ 4 ∧ 8 < n6) ∨ (n3 ≤ 8 ∧ n4 ≤ 8 ∧ n5 ≤ 4 ∧ n6 ≤ 8 ∧ n7 < 1) ∨ (n3 ≤ 8 ∧ n4 ≤ 8 ∧ n5 ≤ 4 ∧ n6 ≤ 8 ∧ 1 ≤ n7 ∧ 12 < n7) ∨ (n3 ≤ 8 ∧ n4 ≤ 8 ∧ n5 ≤ 4 ∧ n6 ≤ 8 ∧ 1 ≤ n7 ∧ n7 ≤ 12 ∧ 4 < n8) := by omega
          clear hall
          rcases hbad with h | ⟨h1, h⟩ | ⟨h1, h2, h⟩ | ⟨h1, h2, h3, h⟩ | ⟨h1, h2, h3, h4, h⟩ | ⟨h1, h2, h3, h4, h5, h⟩ | ⟨h1, h2, h3, h4, h5, h6, h⟩
          all_goals
            go_wp2_with fail
            refine (HS0.out X HXB.out).mono ?_
            (rintro e w1 ⟨rfl, hw⟩; rw [hw]; clear hw)
            go_wp2_with fail
            refine (HS1.out _ HXB.out).mono ?_
            (rintro e w2 ⟨rfl, hw⟩; rw [hw]; clear hw)
            go_wp2_with fail
            refine (HS2.out _ HXB.out).mono ?_
            (rintro e w3 ⟨rfl, hw⟩; rw [hw]; clear hw)
            go_wp2
            go_ret
            exact ⟨rbool HF0.out.symm, HXB.out⟩

end Go.Proofs.YtgohnlcgidmlfaaDoor
