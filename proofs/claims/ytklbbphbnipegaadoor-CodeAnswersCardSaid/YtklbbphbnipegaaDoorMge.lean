/- The document's own Words and Size; the walk of CodeAnswers. -/
import Derived.Test.YtklbbphbnipegaaDoorMgd
import Derived.Test.YtklbbphbnipegaaDoorMfc
import Derived.Test.YtklbbphbnipegaaDoorMdl
import Derived.Deep.RegionHeld3
import Derived.Deep.Cut
set_option linter.unusedVariables false
set_option linter.unusedSimpArgs false
set_option maxRecDepth 100000
namespace Go.Proofs.YtklbbphbnipegaaDoor
open Go.RowKit

set_option maxHeartbeats 2000000 in
set_option maxRecDepth 100000 in
theorem refwords_any {w : World} {m : Mo} {v : Vm} (h : IsMo w (· < w.heap.size) m v) :
    Calls Tryd.prog 14 #[.agg v.arr] w fun e w' => e = .returned (.int .i64 (if rightM m = true then sumS m.globals else 0)) ∧ Below w.heap.size w w' := by
  obtain ⟨X, hX⟩ : ∃ X : World, X = w.alloc (.cells #[v.g, v.s, v.c, v.l, v.i, v.o, v.h, v.f, v.t] 27) := ⟨_, rfl⟩
  have hxb : Below w.heap.size w X := by rw [hX]; exact (Below.refl _ w).alloc (Nat.le_refl _) _
  have hx1 : MoBlk X w.heap.size v := by rw [hX]; exact MoBlk.grow
  have hxs : X.heap.size = w.heap.size + 1 := by rw [hX, asz]
  have hi : ∀ wx, Below X.heap.size X wx → IsMo wx (· < wx.heap.size) m v := fun wx hb => h.grow (hxb.trans (hb.mono (by omega)))
  obtain ⟨q, hq⟩ : ∃ q, q = rightM m := ⟨_, rfl⟩
  have C0 := Lib.hid (refright_any (hi X (Below.refl _ _)))
  have C1 : Hid (q = true → ∀ wx, Below X.heap.size X wx → Calls Tryd.prog 33 #[.agg v.arr] wx fun e w' => e = .returned (.int .i64 (sumS m.globals)) ∧ Below wx.heap.size wx w') := Lib.hid (fun hr wx hb => by
    rw [hq] at hr
    unfold rightM at hr
    simp only [Bool.and_eq_true] at hr
    exact rwords_any (hi wx hb) (partsM_globals hr.1.1).1 (partsM_globals hr.1.1).2)
  rw [← hq] at C0 ⊢
  simp only [Vm.arr] at C0 C1 ⊢
  have CC := Lib.hid (fun wx (hb : Below X.heap.size X wx) => (hx1.below hb (by omega)).all)
  have HX := Lib.hid hX
  have HXB := Lib.hid hxb
  have HXS := Lib.hid hxs
  clear hX hxb hx1 hxs hi hq h
  go_enter Tryd.func14, Tryd.ntmps14
  go_wp2_with fail
  rw [← HX.out]
  with_reducible refine C0.out.mono ?_
  rintro e w1 ⟨rfl, h1⟩
  have HB1 := Lib.hid h1
  have HE1 := Lib.hid (HXB.out.trans (h1.mono (by have := HXS.out; omega)))
  obtain ⟨p0, p1, p2, p3, p4, p5, p6, p7, p8⟩ := CC.out w1 h1
  clear h1 C0
  cases q with
  | false =>
    clear C1 CC
    go_wp2
    go_ret
    exact ⟨rfl, HE1.out⟩
  | true =>
    have D1 := Lib.hid (C1.out (by first | rfl | trivial) w1 HB1.out)
    clear C1 CC
    go_wp2_with fail
    with_reducible refine D1.out.mono ?_
    rintro e w2 ⟨rfl, h2⟩
    have HE2 := Lib.hid (HE1.out.trans (h2.mono HE1.out.size))
    clear h2 D1 p0 p1 p2 p3 p4 p5 p6 p7 p8
    go_wp2
    go_ret
    exact ⟨rfl, HE2.out⟩


set_option maxHeartbeats 2000000 in
theorem refsize_any {w : World} {m : Mo} {v : Vm} (h : IsMo w (· < w.heap.size) m v) :
    Calls Tryd.prog 16 #[.agg v.arr] w fun e w' => e = .returned (.int .i64 (if rightM m = true then sumC m.funcs else 0)) ∧ Below w.heap.size w w' := by
  obtain ⟨X, hX⟩ : ∃ X : World, X = w.alloc (.cells #[v.g, v.s, v.c, v.l, v.i, v.o, v.h, v.f, v.t] 27) := ⟨_, rfl⟩
  have hxb : Below w.heap.size w X := by rw [hX]; exact (Below.refl _ w).alloc (Nat.le_refl _) _
  have hx1 : MoBlk X w.heap.size v := by rw [hX]; exact MoBlk.grow
  have hxs : X.heap.size = w.heap.size + 1 := by rw [hX, asz]
  obtain ⟨A7, c7, e7, hc7, hM7⟩ := h.f.form
  obtain ⟨n7, hn7⟩ : ∃ n, n = m.funcs.length := ⟨_, rfl⟩
  rw [← hn7] at e7 hc7 hM7
  obtain ⟨q, hq⟩ : ∃ q, q = rightM m := ⟨_, rfl⟩
  have CR : Hid (∀ wx, Below X.heap.size X wx → Calls Tryd.prog 12 #[.agg #[v.g, v.s, v.c, v.l, v.i, v.o, v.h, .slice A7 n7 c7, v.t]] wx fun e w' => e = .returned (.bool q) ∧ Below wx.heap.size wx w') := Lib.hid (fun wx hb => by
    have := refright_any (h.grow (hxb.trans (hb.mono (by omega))))
    rw [Vm.arr, e7, ← hq] at this
    exact this)
  have CC : Hid (∀ wx, Below X.heap.size X wx → wx.cell? ⟨w.heap.size, 0, none⟩ = some v.g ∧ wx.cell? ⟨w.heap.size, 1, none⟩ = some v.s ∧ wx.cell? ⟨w.heap.size, 2, none⟩ = some v.c ∧ wx.cell? ⟨w.heap.size, 3, none⟩ = some v.l ∧ wx.cell? ⟨w.heap.size, 4, none⟩ = some v.i ∧ wx.cell? ⟨w.heap.size, 5, none⟩ = some v.o ∧ wx.cell? ⟨w.heap.size, 6, none⟩ = some v.h ∧ wx.cell? ⟨w.heap.size, 7, none⟩ = some (.slice A7 n7 c7) ∧ wx.cell? ⟨w.heap.size, 8, none⟩ = some v.t) := Lib.hid (fun wx hb => by
    have := (hx1.below hb (by omega)).all
    rw [e7] at this
    exact this)
  have HLE : Hid (q = true → ∀ j, sumC (m.funcs.take j) ≤ 4096 ∧ 0 ≤ sumC (m.funcs.take j)) := Lib.hid (fun h j => by
    have h1 := (rightP (hq ▸ h)).sum
    have h2 := sumC_app (m.funcs.take j) (m.funcs.drop j)
    rw [List.take_append_drop] at h2
    have h3 := sumN_c (m.funcs.take j)
    have h4 := sumN_c (m.funcs.drop j)
    have h5 := sumN_c m.funcs
    omega)
  rw [← hq]
  obtain ⟨ans, hans⟩ : ∃ a : Int, a = if q = true then sumC m.funcs else 0 := ⟨_, rfl⟩
  rw [← hans]
  have HAN := Lib.hid hans
  clear hans
  have HX := Lib.hid hX
  have HXB := Lib.hid hxb
  have HXS := Lib.hid hxs
  have HN7 := Lib.hid hn7
  have HF : Hid (Lies KF w (· < w.heap.size) m.funcs (.slice A7 n7 c7)) := Lib.hid (by rw [← e7]; exact h.f)
  clear hX hxb hx1 hxs hq h e7 hn7
  simp only [Vm.arr]
  go_enter Tryd.func16, Tryd.ntmps16
  go_upto_region 3 with (fail)
  try rw [← HX.out]
  go_wp2_with fail
  try rw [← HX.out]
  go_loopw [3, 4] (fun nv i wr => ∃ j : Nat, j ≤ n7 ∧ i = .int .i64 (j : Int) ∧ nv = .int .i64 (sumC (m.funcs.take j)) ∧ (j = 0 ∨ q = true) ∧ Hid (Below X.heap.size X wr)) (fun _ i _ => n7 - (intOf i).toNat)
  case atStart => exact ⟨0, Nat.zero_le _, rfl, rfl, .inl rfl, Lib.hid (Below.refl _ _)⟩
  case round =>
    obtain ⟨wo, rfl⟩ : ∃ wo : World, wo = wr := ⟨_, rfl⟩
    obtain ⟨j, hj, rfl, rfl, hjq, HBL⟩ := hrel
    have HEO := Lib.hid (HXB.out.trans (HBL.out.mono (by have := HXS.out; omega)))
    obtain ⟨k0, k1, k2, k3, k4, k5, k6, k7, k8⟩ := CC.out wo HBL.out
    obtain ⟨nn, hnn⟩ : ∃ nn, nn = sumC (m.funcs.take j) := ⟨_, rfl⟩
    rw [← hnn]
    by_cases hlt : j < n7
    · cases q with
      | false =>
        have hj0 : j = 0 := by simpa using hjq
        have HN0 : Hid (nn = 0) := Lib.hid (by rw [hnn, hj0]; rfl)
        clear hjq hnn hj0
        go_wp2_with fail
        refine (CR.out wo HBL.out).mono ?_
        rintro e w5 ⟨rfl, hb5⟩
        have HE5 := Lib.hid (HEO.out.trans (hb5.mono HEO.out.size))
        clear hb5
        go_wp2
        go_ret
        exact ⟨rint (by rw [HN0.out, HAN.out]; first | rfl | simp), HE5.out⟩
      | true =>
        have hjf : j < m.funcs.length := by rw [← HN7.out]; exact hlt
        obtain ⟨b, off, cvq, rfl, hbS, hatq, hcq, hfi⟩ := HF.out.fn j hjf
        have htk : sumC (m.funcs.take (j + 1)) = nn + (m.funcs[j].code.length : Int) := by
          rw [List.take_add_one, List.getElem?_eq_getElem hjf, Option.toList_some, sumC_app, hnn]
          simp [sumC]
        have hle := (HLE.out (by first | rfl | trivial) (j + 1))
        have hle0 := (HLE.out (by first | rfl | trivial) j)
        rw [← hnn] at hle0
        obtain ⟨nQ, hnQ⟩ : ∃ n, n = m.funcs[j].code.length := ⟨_, rfl⟩
        obtain ⟨AQ, cQ, rfl, -, hMQ⟩ := hcq.form
        rw [← hnQ] at hatq htk hMQ
        rw [htk] at hle
        have HTK := Lib.hid htk
        have HAT := Lib.hid hatq
        clear hatq hcq hfi htk hnQ hnn hjq
        go_wp2_with fail
        refine (CR.out wo HBL.out).mono ?_
        rintro e w5 ⟨rfl, hb5⟩
        have HB5 := Lib.hid (HBL.out.trans (hb5.mono HBL.out.size))
        have HE5 := Lib.hid (HEO.out.trans (hb5.mono HEO.out.size))
        clear hb5 k0 k1 k2 k3 k4 k5 k6 k7 k8
        have k7 := (CC.out w5 HB5.out).2.2.2.2.2.2.2.1
        have r4 := (HAT.out.keep (HE5.out.block b hbS)).c4
        have x1 := IntWalk.i64_in (nn + (nQ : Int)) (by omega)
        go_wp2
        go_roundw
        case rel => exact ⟨j + 1, by omega, by go_num, by rw [HTK.out], .inr (by first | rfl | trivial), HB5⟩
        case measure => simp [intOf]; omega
    · have HE : Hid (nn = ans) := Lib.hid (by
        rw [HAN.out]
        rcases hjq with h0 | h0
        · have h1 : n7 = 0 := by omega
          have h2 : m.funcs = [] := List.eq_nil_of_length_eq_zero (by rw [← HN7.out]; exact h1)
          rw [hnn, h2]
          simp [sumC]
        · rw [if_pos h0, hnn, List.take_of_length_le (by rw [← HN7.out]; omega)])
      clear hjq hnn
      go_wp2
      go_ret
      exact ⟨rint HE.out, HEO.out⟩

set_option maxHeartbeats 8000000 in
theorem codeAnswers_walk (w : World) {m : Mo} {v : Vm} (h : IsMo w (· < w.heap.size) m v) (hnm : NmW w) (htb : TbW w) :
    Calls Tryd.prog 3 #[.agg v.arr] w fun e w' => e = .returned (.bool true) ∧ Below w.heap.size w w' := by
  obtain ⟨X, hX⟩ : ∃ X : World, X = w.alloc (.cells #[v.g, v.s, v.c, v.l, v.i, v.o, v.h, v.f, v.t] 27) := ⟨_, rfl⟩
  have L0 : Hid (LawW w m v X) := Lib.hid (by rw [hX]; exact LawW.start h hnm htb)
  have HX := Lib.hid hX
  clear hX h hnm htb
  simp only [Vm.arr]
  go_enter Tryd.func3, Tryd.ntmps3
  go_wp2_with fail
  rw [← HX.out]
  refine (alive10_any L0.out.nm L0.out.tb).mono ?_
  rintro e w1 ⟨rfl, hb⟩
  have L1 := Lib.hid (L0.out.step hb)
  clear hb
  obtain ⟨p0, p1, p2, p3, p4, p5, p6, p7, p8⟩ := L1.out.blk.all
  have C := Lib.hid (weighm_any L1.out.mo 40000 (by omega) (by omega))
  obtain ⟨W, hW⟩ : ∃ W, W = weighM m 40000 := ⟨_, rfl⟩
  rw [← hW] at C
  simp only [Vm.arr] at C
  have HW := Lib.hid hW
  clear hW
  go_wp2_with fail
  refine C.out.mono ?_
  rintro e w2 ⟨rfl, hb⟩
  have L2 := Lib.hid (L1.out.step hb)
  clear hb C p0 p1 p2 p3 p4 p5 p6 p7 p8
  by_cases hle : W ≤ 40000
  · have HL := Lib.hid (lightM (by rw [← HW.out]; exact hle))
    obtain ⟨p0, p1, p2, p3, p4, p5, p6, p7, p8⟩ := L2.out.blk.all
    have C := Lib.hid (copyModule_any L2.out.mo (lightM.copy HL.out (by omega)).1 (lightM.copy HL.out (by omega)).2)
    simp only [Vm.arr] at C
    go_wp2_with fail
    refine C.out.mono ?_
    intro e w3 hnm3
    obtain ⟨v', rfl, hin, hb⟩ := hnm3.is_
    have L3 := Lib.hid (L2.out.step hb)
    clear C hnm3 p0 p1 p2 p3 p4 p5 p6 p7 p8
    obtain ⟨A0, c0, e0, -, -⟩ := hin.g.form
    obtain ⟨n0, hn0⟩ : ∃ n, n = m.globals.length := ⟨_, rfl⟩
    rw [← hn0] at e0
    obtain ⟨A1, c1, e1, -, -⟩ := hin.s.form
    obtain ⟨n1, hn1⟩ : ∃ n, n = m.structs.length := ⟨_, rfl⟩
    rw [← hn1] at e1
    obtain ⟨A2, c2, e2, -, -⟩ := hin.c.form
    obtain ⟨n2, hn2⟩ : ∃ n, n = m.chans.length := ⟨_, rfl⟩
    rw [← hn2] at e2
    obtain ⟨A3, c3, e3, -, -⟩ := hin.l.form
    obtain ⟨n3, hn3⟩ : ∃ n, n = m.locks.length := ⟨_, rfl⟩
    rw [← hn3] at e3
    obtain ⟨A4, c4, e4, -, -⟩ := hin.i.form
    obtain ⟨n4, hn4⟩ : ∃ n, n = m.inputs.length := ⟨_, rfl⟩
    rw [← hn4] at e4
    obtain ⟨A5, c5, e5, -, -⟩ := hin.o.form
    obtain ⟨n5, hn5⟩ : ∃ n, n = m.sinks.length := ⟨_, rfl⟩
    rw [← hn5] at e5
    obtain ⟨A6, c6, e6, -, -⟩ := hin.h.form
    obtain ⟨n6, hn6⟩ : ∃ n, n = m.hatches.length := ⟨_, rfl⟩
    rw [← hn6] at e6
    obtain ⟨A7, c7, e7, -, -⟩ := hin.f.form
    obtain ⟨n7, hn7⟩ : ∃ n, n = m.funcs.length := ⟨_, rfl⟩
    rw [← hn7] at e7
    obtain ⟨A8, c8, e8, -, -⟩ := hin.t.form
    obtain ⟨n8, hn8⟩ : ∃ n, n = m.threads.length := ⟨_, rfl⟩
    rw [← hn8] at e8
    have hvv : v' = ⟨.slice A0 n0 c0, .slice A1 n1 c1, .slice A2 n2 c2, .slice A3 n3 c3, .slice A4 n4 c4, .slice A5 n5 c5, .slice A6 n6 c6, .slice A7 n7 c7, .slice A8 n8 c8⟩ := by cases v'; dsimp only at e0 e1 e2 e3 e4 e5 e6 e7 e8; rw [e0, e1, e2, e3, e4, e5, e6, e7, e8]
    have harr : v'.arr = #[.slice A0 n0 c0, .slice A1 n1 c1, .slice A2 n2 c2, .slice A3 n3 c3, .slice A4 n4 c4, .slice A5 n5 c5, .slice A6 n6 c6, .slice A7 n7 c7, .slice A8 n8 c8] := by rw [hvv]; rfl
    rw [harr]
    obtain ⟨P, hP⟩ : ∃ P, P = w3.heap.size := ⟨_, rfl⟩
    obtain ⟨Y, hY⟩ : ∃ Y : World, Y = w3.alloc (.cells #[.slice A0 n0 c0, .slice A1 n1 c1, .slice A2 n2 c2, .slice A3 n3 c3, .slice A4 n4 c4, .slice A5 n5 c5, .slice A6 n6 c6, .slice A7 n7 c7, .slice A8 n8 c8] 27) := ⟨_, rfl⟩
    have hyb : Below w3.heap.size w3 Y := by rw [hY]; exact (Below.refl _ _).alloc (Nat.le_refl _) _
    have hys : Y.heap.size = P + 1 := by rw [hY, asz, hP]
    have hy0 : MoBlk Y P v' := by rw [hY, hP, ← harr]; exact MoBlk.of_alloc w3 v'
    have hyi : IsMo Y (· < Y.heap.size) m v' := (hin.keep (S' := (· < w3.heap.size)) (fun _ _ => rfl) (fun b hb => hb.2)).grow hyb
    have LY := Lib.hid (L3.out.step hyb)
    obtain ⟨q, hq⟩ : ∃ q, q = rightM m := ⟨_, rfl⟩
    obtain ⟨sw, hsw⟩ : ∃ s : Int, s = if rightM m = true then sumS m.globals else 0 := ⟨_, rfl⟩
    obtain ⟨sc, hsc⟩ : ∃ s : Int, s = if rightM m = true then sumC m.funcs else 0 := ⟨_, rfl⟩
    have KP : Hid (∀ wx, Below Y.heap.size Y wx → (wx.cell? ⟨P, 0, none⟩ = some (.slice A0 n0 c0) ∧ wx.cell? ⟨P, 1, none⟩ = some (.slice A1 n1 c1) ∧ wx.cell? ⟨P, 2, none⟩ = some (.slice A2 n2 c2) ∧ wx.cell? ⟨P, 3, none⟩ = some (.slice A3 n3 c3) ∧ wx.cell? ⟨P, 4, none⟩ = some (.slice A4 n4 c4) ∧ wx.cell? ⟨P, 5, none⟩ = some (.slice A5 n5 c5) ∧ wx.cell? ⟨P, 6, none⟩ = some (.slice A6 n6 c6) ∧ wx.cell? ⟨P, 7, none⟩ = some (.slice A7 n7 c7) ∧ wx.cell? ⟨P, 8, none⟩ = some (.slice A8 n8 c8)) ∧ (wx.cell? ⟨w.heap.size, 0, none⟩ = some v.g ∧ wx.cell? ⟨w.heap.size, 1, none⟩ = some v.s ∧ wx.cell? ⟨w.heap.size, 2, none⟩ = some v.c ∧ wx.cell? ⟨w.heap.size, 3, none⟩ = some v.l ∧ wx.cell? ⟨w.heap.size, 4, none⟩ = some v.i ∧ wx.cell? ⟨w.heap.size, 5, none⟩ = some v.o ∧ wx.cell? ⟨w.heap.size, 6, none⟩ = some v.h ∧ wx.cell? ⟨w.heap.size, 7, none⟩ = some v.f ∧ wx.cell? ⟨w.heap.size, 8, none⟩ = some v.t)) := Lib.hid (fun wx hb => by
      have h1 := hy0.below hb (by omega)
      unfold MoBlk at h1
      rw [harr] at h1
      have hc := fun j => cell_of_row wx P j _ _ (0, 0) h1
      exact ⟨⟨hc 0, hc 1, hc 2, hc 3, hc 4, hc 5, hc 6, hc 7, hc 8⟩, ((LY.out.step hb).blk.all)⟩)
    have C1 : Hid (∀ wx, Below Y.heap.size Y wx → Calls Tryd.prog 11 #[.agg #[.slice A0 n0 c0, .slice A1 n1 c1, .slice A2 n2 c2, .slice A3 n3 c3, .slice A4 n4 c4, .slice A5 n5 c5, .slice A6 n6 c6, .slice A7 n7 c7, .slice A8 n8 c8]] wx fun e w' => e = .returned (.bool q) ∧ Below wx.heap.size wx w') := Lib.hid (fun wx hb => by
      have := right_any (hyi.grow hb); rw [harr, ← hq] at this; exact this)
    have C2 : Hid (∀ wx, Below Y.heap.size Y wx → Calls Tryd.prog 12 #[.agg #[v.g, v.s, v.c, v.l, v.i, v.o, v.h, v.f, v.t]] wx fun e w' => e = .returned (.bool q) ∧ Below wx.heap.size wx w') := Lib.hid (fun wx hb => by
      have := refright_any (LY.out.step hb).mo; rw [← hq] at this; exact this)
    have C3 : Hid (∀ wx, Below Y.heap.size Y wx → Calls Tryd.prog 13 #[.agg #[.slice A0 n0 c0, .slice A1 n1 c1, .slice A2 n2 c2, .slice A3 n3 c3, .slice A4 n4 c4, .slice A5 n5 c5, .slice A6 n6 c6, .slice A7 n7 c7, .slice A8 n8 c8]] wx fun e w' => e = .returned (.int .i64 sw) ∧ Below wx.heap.size wx w') := Lib.hid (fun wx hb => by
      have := wordsR_any (hyi.grow hb); rw [harr, ← hsw] at this; exact this)
    have C4 : Hid (∀ wx, Below Y.heap.size Y wx → Calls Tryd.prog 14 #[.agg #[v.g, v.s, v.c, v.l, v.i, v.o, v.h, v.f, v.t]] wx fun e w' => e = .returned (.int .i64 sw) ∧ Below wx.heap.size wx w') := Lib.hid (fun wx hb => by
      have := refwords_any (LY.out.step hb).mo; rw [← hsw] at this; exact this)
    have C5 : Hid (∀ wx, Below Y.heap.size Y wx → Calls Tryd.prog 15 #[.agg #[.slice A0 n0 c0, .slice A1 n1 c1, .slice A2 n2 c2, .slice A3 n3 c3, .slice A4 n4 c4, .slice A5 n5 c5, .slice A6 n6 c6, .slice A7 n7 c7, .slice A8 n8 c8]] wx fun e w' => e = .returned (.int .i64 sc) ∧ Below wx.heap.size wx w') := Lib.hid (fun wx hb => by
      have := sizeR_any (hyi.grow hb); rw [harr, ← hsc] at this; exact this)
    have C6 : Hid (∀ wx, Below Y.heap.size Y wx → Calls Tryd.prog 16 #[.agg #[v.g, v.s, v.c, v.l, v.i, v.o, v.h, v.f, v.t]] wx fun e w' => e = .returned (.int .i64 sc) ∧ Below wx.heap.size wx w') := Lib.hid (fun wx hb => by
      have := refsize_any (LY.out.step hb).mo; rw [← hsc] at this; exact this)
    have C7 : Hid (∀ wx, Below Y.heap.size Y wx → Calls Tryd.prog 17 #[.agg #[.slice A0 n0 c0, .slice A1 n1 c1, .slice A2 n2 c2, .slice A3 n3 c3, .slice A4 n4 c4, .slice A5 n5 c5, .slice A6 n6 c6, .slice A7 n7 c7, .slice A8 n8 c8], .agg #[v.g, v.s, v.c, v.l, v.i, v.o, v.h, v.f, v.t]] wx fun e w' => e = .returned (.bool true) ∧ Below wx.heap.size wx w') := Lib.hid (fun wx hb => by
      have := sameModule_at (hyi.grow hb) (LY.out.step hb).mo; rw [harr] at this; exact this)
    have HYE := Lib.hid hY
    have HPE := Lib.hid hP
    clear hb hin harr hvv hyb hys hy0 hyi e0 e1 e2 e3 e4 e5 e6 e7 e8 hn0 hn1 hn2 hn3 hn4 hn5 hn6 hn7 hn8 hq hsw hsc hY hP
    go_upto_region 6 with (fail)
    rw [← HYE.out, ← HPE.out]
    have B0 : Hid (Below Y.heap.size Y Y.drew) := Lib.hid (Below.refl _ _).drew
    obtain ⟨⟨k0, k1, k2, k3, k4, k5, k6, k7, k8⟩, ⟨p0, p1, p2, p3, p4, p5, p6, p7, p8⟩⟩ := KP.out Y (Below.refl _ _)
    go_region_held3 (fun W => (W.cell? ⟨P, 0, none⟩ = some (.slice A0 n0 c0) ∧ W.cell? ⟨P, 1, none⟩ = some (.slice A1 n1 c1) ∧ W.cell? ⟨P, 2, none⟩ = some (.slice A2 n2 c2) ∧ W.cell? ⟨P, 3, none⟩ = some (.slice A3 n3 c3) ∧ W.cell? ⟨P, 4, none⟩ = some (.slice A4 n4 c4) ∧ W.cell? ⟨P, 5, none⟩ = some (.slice A5 n5 c5) ∧ W.cell? ⟨P, 6, none⟩ = some (.slice A6 n6 c6) ∧ W.cell? ⟨P, 7, none⟩ = some (.slice A7 n7 c7) ∧ W.cell? ⟨P, 8, none⟩ = some (.slice A8 n8 c8)) ∧ (W.cell? ⟨w.heap.size, 0, none⟩ = some v.g ∧ W.cell? ⟨w.heap.size, 1, none⟩ = some v.s ∧ W.cell? ⟨w.heap.size, 2, none⟩ = some v.c ∧ W.cell? ⟨w.heap.size, 3, none⟩ = some v.l ∧ W.cell? ⟨w.heap.size, 4, none⟩ = some v.i ∧ W.cell? ⟨w.heap.size, 5, none⟩ = some v.o ∧ W.cell? ⟨w.heap.size, 6, none⟩ = some v.h ∧ W.cell? ⟨w.heap.size, 7, none⟩ = some v.f ∧ W.cell? ⟨w.heap.size, 8, none⟩ = some v.t)) (first | with_reducible exact KP.out _ B0.out | with_reducible exact KP.out _ B1.out | with_reducible exact KP.out _ B2.out | with_reducible exact KP.out _ B3.out | with_reducible exact KP.out _ B4.out | with_reducible exact KP.out _ B5.out | with_reducible exact KP.out _ B6.out | with_reducible exact KP.out _ B7.out | go_keep)
      (first
        | (go_at_call 11; with_reducible refine (C1.out _ B0.out).mono ?_; (rintro e x1 ⟨rfl, hb1⟩; have B1 : Hid (Below Y.heap.size Y x1) := Lib.hid (B0.out.trans (hb1.mono B0.out.size)); clear hb1))
        | (go_at_call 12; with_reducible refine (C2.out _ B1.out).mono ?_; (rintro e x2 ⟨rfl, hb2⟩; have B2 : Hid (Below Y.heap.size Y x2) := Lib.hid (B1.out.trans (hb2.mono B1.out.size)); clear hb2))
        | (go_at_call 13; with_reducible refine (C3.out _ B2.out).mono ?_; (rintro e x3 ⟨rfl, hb3⟩; have B3 : Hid (Below Y.heap.size Y x3) := Lib.hid (B2.out.trans (hb3.mono B2.out.size)); clear hb3))
        | (go_at_call 14; with_reducible refine (C4.out _ B3.out).mono ?_; (rintro e x4 ⟨rfl, hb4⟩; have B4 : Hid (Below Y.heap.size Y x4) := Lib.hid (B3.out.trans (hb4.mono B3.out.size)); clear hb4))
        | (go_at_call 15; with_reducible refine (C5.out _ B4.out).mono ?_; (rintro e x5 ⟨rfl, hb5⟩; have B5 : Hid (Below Y.heap.size Y x5) := Lib.hid (B4.out.trans (hb5.mono B4.out.size)); clear hb5))
        | (go_at_call 16; with_reducible refine (C6.out _ B5.out).mono ?_; (rintro e x6 ⟨rfl, hb6⟩; have B6 : Hid (Below Y.heap.size Y x6) := Lib.hid (B5.out.trans (hb6.mono B5.out.size)); clear hb6))
        | (go_at_call 17; with_reducible refine (C7.out _ B6.out).mono ?_; (rintro e x7 ⟨rfl, hb7⟩; have B7 : Hid (Below Y.heap.size Y x7) := Lib.hid (B6.out.trans (hb7.mono B6.out.size)); clear hb7)))
    all_goals
      go_wp2
      go_ret
      exact ⟨rfl, LY.out.below.trans (B7.out.mono LY.out.below.size)⟩
  · clear HW L0 L1
    go_wp2
    go_ret
    exact ⟨rfl, L2.out.below⟩

end Go.Proofs.YtklbbphbnipegaaDoor
