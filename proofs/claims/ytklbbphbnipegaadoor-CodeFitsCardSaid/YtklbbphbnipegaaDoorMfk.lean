/- The walk of CodeFits. -/
import Derived.Test.YtklbbphbnipegaaDoorMfc
import Derived.Test.YtklbbphbnipegaaDoorMfj
import Derived.Deep.Cut
import Derived.Deep.CutRange
import Derived.Deep.CutBlock
set_option linter.unusedVariables false
set_option linter.unusedSimpArgs false
set_option maxRecDepth 100000
namespace Go.Proofs.YtklbbphbnipegaaDoor
open Go.RowKit

set_option maxHeartbeats 8000000 in
theorem codeFits_walk (w : World) {m : Mo} {v : Vm} (h : IsMo w (· < w.heap.size) m v) (fnI opI fld : Int) (hnm : NmW w) (htb : TbW w) :
    Calls Tryd.prog 5 #[.agg v.arr, .int .i64 fnI, .int .i64 opI, .int .i64 fld] w fun e w' => e = .returned (.bool true) ∧ Below w.heap.size w w' := by
  obtain ⟨X, hX⟩ : ∃ X : World, X = w.alloc (.cells #[v.g, v.s, v.c, v.l, v.i, v.o, v.h, v.f, v.t] 27) := ⟨_, rfl⟩
  have L0 : Hid (LawW w m v X) := Lib.hid (by rw [hX]; exact LawW.start h hnm htb)
  have HX := Lib.hid hX
  clear hX h hnm htb
  simp only [Vm.arr]
  go_enter Tryd.func5, Tryd.ntmps5
  go_wp2_with fail
  rw [← HX.out]
  refine (alive10_any L0.out.nm L0.out.tb).mono ?_
  rintro e w1 ⟨rfl, hb⟩
  have L1 := Lib.hid (L0.out.step hb)
  clear hb
  obtain ⟨p0, p1, p2, p3, p4, p5, p6, p7, p8⟩ := L1.out.blk.all
  have C := Lib.hid (weighm_any L1.out.mo 20000 (by omega) (by omega))
  obtain ⟨W, hW⟩ : ∃ W, W = weighM m 20000 := ⟨_, rfl⟩
  rw [← hW] at C
  simp only [Vm.arr] at C
  have HW := Lib.hid hW
  clear hW
  go_wp2_with fail
  refine C.out.mono ?_
  rintro e w2 ⟨rfl, hb⟩
  have L2 := Lib.hid (L1.out.step hb)
  clear hb C p0 p1 p2 p3 p4 p5 p6 p7 p8
  by_cases hle : W ≤ 20000
  · have HL := Lib.hid (lightM (by rw [← HW.out]; exact hle))
    have HCB := Lib.hid (lightM.copy HL.out (by omega))
    obtain ⟨p0, p1, p2, p3, p4, p5, p6, p7, p8⟩ := L2.out.blk.all
    have C := Lib.hid (copyModule_any L2.out.mo HCB.out.1 HCB.out.2)
    simp only [Vm.arr] at C
    go_wp2_with fail
    refine C.out.mono ?_
    intro e w3 hnm3
    obtain ⟨v3, rfl, hin, hb⟩ := hnm3.is_
    have L3 := Lib.hid (L2.out.step hb)
    have C2 := Lib.hid (right_any (hin.keep (S' := (· < w3.heap.size)) (fun _ _ => rfl) (fun b hb => hb.2)))
    clear hb C p0 p1 p2 p3 p4 p5 p6 p7 p8 hin hnm3
    simp only [Vm.arr] at C2 ⊢
    obtain ⟨q, hq⟩ : ∃ q, q = rightM m := ⟨_, rfl⟩
    rw [← hq] at C2
    have HQ := Lib.hid hq
    clear hq
    go_wp2_with fail
    refine C2.out.mono ?_
    rintro e w4 ⟨rfl, hb⟩
    have L4 := Lib.hid (L3.out.step hb)
    clear hb C2
    cases q with
    | false =>
      clear HW L0 L1 L2 L3
      go_wp2
      go_ret
      exact ⟨rfl, L4.out.below⟩
    | true =>
      by_cases hf0 : fnI < 0
      · clear HW L0 L1 L2 L3
        go_wp2
        go_ret
        exact ⟨rfl, L4.out.below⟩
      · obtain ⟨i, rfl⟩ := Int.eq_ofNat_of_zero_le (show 0 ≤ fnI by omega)
        obtain ⟨A7, c7, e7, hc7, hM7⟩ := L4.out.mo.f.form
        obtain ⟨n7, hn7⟩ : ∃ n, n = m.funcs.length := ⟨_, rfl⟩
        rw [← hn7] at e7 hc7 hM7
        have KM : Hid (∀ wx, LawW w m v wx → wx.cell? ⟨w.heap.size, 0, none⟩ = some v.g ∧ wx.cell? ⟨w.heap.size, 1, none⟩ = some v.s ∧ wx.cell? ⟨w.heap.size, 2, none⟩ = some v.c ∧ wx.cell? ⟨w.heap.size, 3, none⟩ = some v.l ∧ wx.cell? ⟨w.heap.size, 4, none⟩ = some v.i ∧ wx.cell? ⟨w.heap.size, 5, none⟩ = some v.o ∧ wx.cell? ⟨w.heap.size, 6, none⟩ = some v.h ∧ wx.cell? ⟨w.heap.size, 7, none⟩ = some (.slice A7 n7 c7) ∧ wx.cell? ⟨w.heap.size, 8, none⟩ = some v.t) := Lib.hid (fun wx hx => by
          have := hx.blk.all
          rw [e7] at this
          exact this)
        obtain ⟨p0, p1, p2, p3, p4, p5, p6, p7, p8⟩ := KM.out w4 L4.out
        have HN7 := Lib.hid hn7
        have HE7 := Lib.hid e7
        clear e7 hn7
        by_cases hf1 : i < n7
        · have hi0 : i < m.funcs.length := by rw [← HN7.out]; exact hf1
          have hfl := L4.out.mo.f
          rw [HE7.out, HN7.out] at hfl
          obtain ⟨b, off, cv, rfl, hbS, hat, hcode, hfin⟩ := hfl.fn i hi0
          obtain ⟨r0, r1, r2, r3, r4⟩ := hat
          obtain ⟨Yf, hYf⟩ : ∃ f, f = m.funcs[i] := ⟨_, rfl⟩
          rw [← hYf] at r0 r1 r2 r3 hcode hfin
          obtain ⟨A9, c9, rfl, hc9, hM9⟩ := hcode.form
          obtain ⟨n9, hn9⟩ : ∃ n, n = Yf.code.length := ⟨_, rfl⟩
          rw [← hn9] at r4 hc9 hM9
          obtain ⟨X5, hX5⟩ : ∃ X5 : World, X5 = w4.alloc (.cells #[.string (bs Yf.name), .int .i64 Yf.params, .int .i64 Yf.regs, .int .i64 Yf.result, .slice A9 n9 c9] 39) := ⟨_, rfl⟩
          have L5 : Hid (LawW w m v X5) := Lib.hid (by rw [hX5]; exact L4.out.alloc _)
          obtain ⟨G, hG⟩ : ∃ G, G = w4.heap.size := ⟨_, rfl⟩
          have hgb : FnBlk X5 G Yf (.slice A9 n9 c9) := by rw [hX5, hG]; exact FnBlk.new w4 Yf _
          have hgs : X5.heap.size = G + 1 := by rw [hX5, asz, hG]
          have HGS := Lib.hid hgs
          have HG0 := Lib.hid hgb
          have HN9 := Lib.hid hn9
          have HYF := Lib.hid hYf
          have HX5 := Lib.hid hX5
          have HGE := Lib.hid hG
          have hgl : w.heap.size + 1 ≤ G := by rw [hG]; exact L4.out.size
          have HFI := Lib.hid hfin
          clear hn9 hYf hX5 hG hgb hgs hcode hfin hfl hbS
          clear HW L0 L1 L2 L3
          by_cases ho0 : opI < 0
          · go_wp2
            go_ret
            exact ⟨rfl, (L4.out.alloc _).below⟩
          · obtain ⟨k, rfl⟩ := Int.eq_ofNat_of_zero_le (show 0 ≤ opI by omega)
            by_cases ho1 : k < n9
            · have g4 := HG0.out.all.2.2.2.2
              rw [HX5.out, HGE.out] at g4
              have hlt4 := L4.out.lt
              go_wp2_with fail
              rw [← HX5.out, ← HGE.out]
              have CC := Lib.hid (copyModule_any L5.out.mo HCB.out.1 HCB.out.2)
              simp only [Vm.arr] at CC
              rw [HE7.out] at CC
              refine CC.out.mono ?_
              rintro e w6 ⟨v', lo, hi, H, T0, rfl, hown, hH, hb⟩
              have L6 := Lib.hid (L5.out.step hb)
              have HB6 := Lib.hid hb.size
              have HG6 := Lib.hid (HG0.out.below hb (by have := HGS.out; omega))
              obtain ⟨B, hB⟩ : ∃ B, B = X5.heap.size := ⟨_, rfl⟩
              rw [← hB] at hown
              obtain ⟨P, hP⟩ : ∃ P, P = w6.heap.size := ⟨_, rfl⟩
              have hcp := hown.cp hH
              rw [← hP] at hcp
              obtain ⟨B0, d0, e0, hd0, hE0⟩ := hcp.is_.g.form
              obtain ⟨B1, d1, e1, hd1, hE1⟩ := hcp.is_.s.form
              obtain ⟨B2, d2, e2, hd2, hE2⟩ := hcp.is_.c.form
              obtain ⟨B3, d3, e3, hd3, hE3⟩ := hcp.is_.l.form
              obtain ⟨B4, d4, e4, hd4, hE4⟩ := hcp.is_.i.form
              obtain ⟨B5, d5, e5, hd5, hE5⟩ := hcp.is_.o.form
              obtain ⟨B6, d6, e6, hd6, hE6⟩ := hcp.is_.h.form
              obtain ⟨B7, d7, e7, hd7, hE7⟩ := hcp.is_.f.form
              obtain ⟨B8, d8, e8, hd8, hE8⟩ := hcp.is_.t.form
              obtain ⟨m0, hm0⟩ : ∃ n, n = m.globals.length := ⟨_, rfl⟩
              rw [← hm0] at e0 hd0 hE0
              obtain ⟨m1, hm1⟩ : ∃ n, n = m.structs.length := ⟨_, rfl⟩
              rw [← hm1] at e1 hd1 hE1
              obtain ⟨m2, hm2⟩ : ∃ n, n = m.chans.length := ⟨_, rfl⟩
              rw [← hm2] at e2 hd2 hE2
              obtain ⟨m3, hm3⟩ : ∃ n, n = m.locks.length := ⟨_, rfl⟩
              rw [← hm3] at e3 hd3 hE3
              obtain ⟨m4, hm4⟩ : ∃ n, n = m.inputs.length := ⟨_, rfl⟩
              rw [← hm4] at e4 hd4 hE4
              obtain ⟨m5, hm5⟩ : ∃ n, n = m.sinks.length := ⟨_, rfl⟩
              rw [← hm5] at e5 hd5 hE5
              obtain ⟨m6, hm6⟩ : ∃ n, n = m.hatches.length := ⟨_, rfl⟩
              rw [← hm6] at e6 hd6 hE6
              obtain ⟨m7, hm7⟩ : ∃ n, n = m.funcs.length := ⟨_, rfl⟩
              rw [← hm7] at e7 hd7 hE7
              obtain ⟨m8, hm8⟩ : ∃ n, n = m.threads.length := ⟨_, rfl⟩
              rw [← hm8] at e8 hd8 hE8
              have hvv : v' = ⟨.slice B0 m0 d0, .slice B1 m1 d1, .slice B2 m2 d2, .slice B3 m3 d3, .slice B4 m4 d4, .slice B5 m5 d5, .slice B6 m6 d6, .slice B7 m7 d7, .slice B8 m8 d8⟩ := by cases v'; dsimp only at e0 e1 e2 e3 e4 e5 e6 e7 e8; rw [e0, e1, e2, e3, e4, e5, e6, e7, e8]
              have harr : v'.arr = #[.slice B0 m0 d0, .slice B1 m1 d1, .slice B2 m2 d2, .slice B3 m3 d3, .slice B4 m4 d4, .slice B5 m5 d5, .slice B6 m6 d6, .slice B7 m7 d7, .slice B8 m8 d8] := by rw [hvv]; rfl
              rw [harr]
              obtain ⟨Y, hY⟩ : ∃ Y : World, Y = w6.alloc (.cells #[.slice B0 m0 d0, .slice B1 m1 d1, .slice B2 m2 d2, .slice B3 m3 d3, .slice B4 m4 d4, .slice B5 m5 d5, .slice B6 m6 d6, .slice B7 m7 d7, .slice B8 m8 d8] 27) := ⟨_, rfl⟩
              have hyb : Below w6.heap.size w6 Y := by rw [hY]; exact (Below.refl _ _).alloc (Nat.le_refl _) _
              have hys : Y.heap.size = P + 1 := by rw [hY, asz, hP]
              have hy0 : MoBlk Y P v' := by rw [hY, hP, ← harr]; exact MoBlk.of_alloc w6 v'
              have hyo : CpMo Y B P m v' lo hi H T0 := hcp.below (D := w6.heap.size) (by omega) hyb
              have hyg : FnBlk Y G Yf (.slice A9 n9 c9) := HG6.out.below hyb (by have := HGS.out; have := HB6.out; omega)
              have LY := Lib.hid (L6.out.step hyb)
              have hiT : i < T0.length := by rw [hyo.len]; exact hi0
              obtain ⟨F, capF, cvF, hvf, hHF, hFs, hFn, hatF, hfrF, hcodeF, hmapF, hintF, hfinF⟩ := hyo.fn i hi0 hiT
              have hB7 : B7 = some ⟨F, 0, none⟩ := by
                have e := e7
                rw [hvf] at e
                injection e with e1
                exact e1.symm
              subst hB7
              have hkc : k < m.funcs[i].code.length := by rw [← HYF.out, ← HN9.out]; exact ho1
              have hkT : k < T0[i].ops.length := by
                have := congrArg List.length hmapF
                rw [List.length_map] at this
                omega
              obtain ⟨C, capC, va, hcv, hlC, hCh, hatO, hfrC, hargs, hintO, hinO, hopO⟩ := opH_at hcodeF hmapF k hkc hkT
              have hcC := hintF C hlC hCh
              obtain ⟨Z, hZ⟩ : ∃ z, z = m.funcs[i].code[k] := ⟨_, rfl⟩
              have hcn : cvF = .slice (some ⟨C, 0, none⟩) n9 capC := by rw [hcv, ← HYF.out, HN9.out]
              have hat4 := hatF.c4
              have q3 := hatF.c3
              rw [← hZ] at hatO hargs hinO hopO
              obtain ⟨A10, c10, rfl, -, -⟩ := hargs.lies.form
              obtain ⟨n10, hn10⟩ : ∃ n, n = Z.args.length := ⟨_, rfl⟩
              rw [← hn10] at hatO hargs
              subst hcn
              have q4 := hat4
              have fq3 := hfrF (i * 5 + 3)
              have fq4 := hfrF (i * 5 + 4)
              have HYO := Lib.hid hyo
              have HY0 := Lib.hid hy0
              have HYG := Lib.hid hyg
              have HARR := Lib.hid harr
              have HYS := Lib.hid hys
              have HZ := Lib.hid hZ
              have HVF := Lib.hid hvf
              have HAT4 := Lib.hid hat4
              have HATO := Lib.hid hatO
              have HARGS := Lib.hid hargs
              have HINO := Lib.hid hinO
              have HN10 := Lib.hid hn10
              have HCOD := Lib.hid hcodeF
              have HMAP := Lib.hid hmapF
              have HINT := Lib.hid hintF
              have HINTO := Lib.hid hintO
              have HYE := Lib.hid hY
              have HPE := Lib.hid hP
              have HBE := Lib.hid hB
              have HM7 := Lib.hid hm7
              have HM8 := Lib.hid hm8
              have HE8 := Lib.hid e8
              have HFRC := Lib.hid hfrC
              have HFRF := Lib.hid hfrF
              have hBG : G + 1 ≤ B ∧ B ≤ P := ⟨by rw [hB]; have := HGS.out; omega, by rw [hB, hP]; exact HB6.out⟩
              have hi7 : i < m7 := by rw [hm7]; exact hi0
              have hlow := hyo.low
              have hmid := hyo.mid
              have KP : Hid (∀ wx, MoBlk wx P v' → wx.cell? ⟨P, 0, none⟩ = some (.slice B0 m0 d0) ∧ wx.cell? ⟨P, 1, none⟩ = some (.slice B1 m1 d1) ∧ wx.cell? ⟨P, 2, none⟩ = some (.slice B2 m2 d2) ∧ wx.cell? ⟨P, 3, none⟩ = some (.slice B3 m3 d3) ∧ wx.cell? ⟨P, 4, none⟩ = some (.slice B4 m4 d4) ∧ wx.cell? ⟨P, 5, none⟩ = some (.slice B5 m5 d5) ∧ wx.cell? ⟨P, 6, none⟩ = some (.slice B6 m6 d6) ∧ wx.cell? ⟨P, 7, none⟩ = some (.slice (some ⟨F, 0, none⟩) m7 d7) ∧ wx.cell? ⟨P, 8, none⟩ = some (.slice B8 m8 d8)) := Lib.hid (fun wx hx => by
                unfold MoBlk at hx
                rw [HARR.out] at hx
                have hc := fun j => cell_of_row wx P j _ _ (0, 0) hx
                exact ⟨hc 0, hc 1, hc 2, hc 3, hc 4, hc 5, hc 6, hc 7, hc 8⟩)
              clear hyo hy0 hyg harr hys hZ hvf hat4 hatO hargs hinO hn10 hcodeF hmapF hintF hintO hY hP hB hm7 hm8 hfrC hfrF hvv hopO hcv e0 e1 e2 e3 e4 e5 e6 e7 e8 hm0 hm1 hm2 hm3 hm4 hm5 hm6 hown hH hb hcp hyb CC p0 p1 p2 p3 p4 p5 p6 p7 p8 r0 r1 r2 r3 r4 g4
              go_upto_region 9 with (fail)
              rw [← HYE.out, ← HPE.out]
              obtain ⟨k0, k1, k2, k3, k4, k5, k6, k7, k8⟩ := KP.out Y HY0.out
              go_upto_block 0 with fail
              have LYH := Lib.hid LY.out
              have HBD : Hid (Bd m) := Lib.hid HCB.out
              have HTT := Lib.hid (And.intro hiT hkT)
              have hPY : P < Y.heap.size := by rw [HYS.out]; omega
              have hsY := hPY
              have hwP : w.heap.size + 1 ≤ P := by omega
              have hFw : w.heap.size + 1 ≤ F ∧ F < P := by
                have h1 := HYO.out.e8.all 7 (by omega)
                have h2 := HYO.out.e8.le 7 (by omega)
                omega
              have hCw : w.heap.size + 1 ≤ C ∧ C < P := by
                have h1 := HYO.out.e8.all 7 (by omega)
                have h2 := HYO.out.e8.le 7 (by omega)
                omega
              have hM20 : (m.threads.length : Int) ≤ 20000 ∧ (Z.args.length : Int) ≤ 20000 := by
                refine ⟨HL.out.ls.2.2.2.2.2.2.2, ?_⟩
                have h1 := (HL.out.fs.2 m.funcs[i] (List.getElem_mem hi0)).2.2 m.funcs[i].code[k] (List.getElem_mem hkc)
                rw [HZ.out]
                exact h1
              have HM20 := Lib.hid hM20
              have KO' : Hid (∀ (j : Nat) (u : Value) (O' : Opx), j < 12 → (∀ va, (opRow m.funcs[i].code[k] va).set j u = opRow O' va) → O'.args = m.funcs[i].code[k].args → (m.funcs[i].code[k].In → O'.In) → rightM (setO m i k m.funcs[i] O') = false → BentAt P (Y.setCell ⟨C, k * 12 + j, none⟩ u)) := Lib.hid (fun j u O' hj h1 h2 h3 h4 => bentO HYO.out HY0.out hPY HBD.out i hi0 k hkc j hj u O' HVF.out HAT4.out hCw.2 h1 h2 h3 h4)
              have LO' : Hid (∀ (j : Nat) (u : Value), LawW w m v (Y.setCell ⟨C, j, none⟩ u)) := Lib.hid (fun j u => LYH.out.set (p := ⟨C, j, none⟩) hCw.1 u)
              clear hM20
              go_cut [8] from 61 to 152 (fun r wx => r = .bool false ∧ Hid (BentAt P wx) ∧ Hid (LawW w m v wx))
              case first =>
                obtain ⟨g0, g1, g2, g3, g4⟩ := HYG.out.all
                have s0 := HATO.out.c0
                have s8 := HATO.out.c8
                have c1 := HATO.out.c1
                have c9' := HATO.out.c9
                have c10' := HATO.out.c10
                have fc0 := HFRC.out (k * 12)
                have fc1 := HFRC.out (k * 12 + 1)
                have fc8 := HFRC.out (k * 12 + 8)
                have fc9 := HFRC.out (k * 12 + 9)
                have fc10 := HFRC.out (k * 12 + 10)
                have fp8 := HY0.out.fr 8
                clear g0 g1 g3
                by_cases h0 : fld = 0
                · subst h0
                  go_wp2
                  go_meet
                  case rel =>
                    exact ⟨rfl, Lib.hid (KO'.out 0 (.int .i64 24) { m.funcs[i].code[k] with kind := 24 } (by omega) (fun va => rfl) rfl (fun h => ⟨⟨by show (-9223372036854775808 : Int) ≤ 24; omega, by show (24 : Int) ≤ _; omega⟩, h.a, h.b, h.c, h.d, h.e, h.f, h.k, h.next, h.els, h.pl⟩) (bent_0 hi0 hkc)), Lib.hid (LO'.out _ _)⟩
                · by_cases h1 : fld = 1
                  · subst h1
                    by_cases hk23 : Z.kind = 23
                    · rw [hk23] at s0
                      go_wp2
                      go_ret
                      exact ⟨rfl, LYH.out.below⟩
                    · have hkb : (Z.kind == 23) = false := by simpa using hk23
                      go_wp2
                      go_meet
                      case rel =>
                        refine ⟨rfl, Lib.hid ?_, Lib.hid (LO'.out _ _)⟩
                        refine KO'.out 9 _ { m.funcs[i].code[k] with next := (m.funcs[i].code.length : Int) } (by omega) (fun va => by rw [HN9.out, HYF.out]; rfl) rfl (fun h => ⟨h.kind, h.a, h.b, h.c, h.d, h.e, h.f, h.k, ⟨by show (-9223372036854775808 : Int) ≤ (m.funcs[i].code.length : Int); omega, by show (m.funcs[i].code.length : Int) ≤ 9223372036854775807; rw [← HYF.out, ← HN9.out]; omega⟩, h.els, h.pl⟩) (bent_1 hi0 hkc (by rw [← HZ.out]; exact hk23))
                  · by_cases h2 : fld = 2
                    · subst h2
                      by_cases hk21 : Z.kind = 21
                      · rw [hk21] at s0
                        go_wp2
                        go_meet
                        case rel =>
                          exact ⟨rfl, Lib.hid (KO'.out 10 _ { m.funcs[i].code[k] with els := -1 } (by omega) (fun va => rfl) rfl (fun h => ⟨h.kind, h.a, h.b, h.c, h.d, h.e, h.f, h.k, h.next, ⟨by show (-9223372036854775808 : Int) ≤ -1; omega, by show (-1 : Int) ≤ _; omega⟩, h.pl⟩) (bent_2' hi0 hkc (by rw [← HZ.out]; exact hk21))), Lib.hid (LO'.out _ _)⟩
                      · have hkb : (Z.kind == 21) = false := by simpa using hk21
                        have hkc2 : (Z.kind != 21) = true := by simpa using hk21
                        go_wp2
                        go_meet
                        case rel =>
                          exact ⟨rfl, Lib.hid (KO'.out 10 _ { m.funcs[i].code[k] with els := 1 } (by omega) (fun va => rfl) rfl (fun h => ⟨h.kind, h.a, h.b, h.c, h.d, h.e, h.f, h.k, h.next, ⟨by show (-9223372036854775808 : Int) ≤ 1; omega, by show (1 : Int) ≤ _; omega⟩, h.pl⟩) (bent_2 hi0 hkc (by rw [← HZ.out]; exact hk21))), Lib.hid (LO'.out _ _)⟩
                    · by_cases h3 : fld = 3
                      · subst h3
                        obtain ⟨Y1, hY1⟩ : ∃ Y1 : World, Y1 = Y.alloc (.cells #[.int .i64 0] 3) := ⟨_, rfl⟩
                        have hb1 : Below Y.heap.size Y Y1 := by rw [hY1]; exact (Below.refl _ _).alloc (Nat.le_refl _) _
                        have ha1 : OwnH KI 3 Y1 T0[i].ops[k].lo T0[i].ops[k].hi Z.args (.slice A10 n10 c10) := HARGS.out.keep (fun b hb hb2 => hb1.block b (by have h1 := HINTO.out b hb hb2; have h2 := HINT.out b h1.1 h1.2.1; omega))
                        have hz1 : Y1.cell? ((⟨Y.heap.size, 0, none⟩ : Addr).add 0) = some (.int .i64 0) := by
                          rw [add_none, Nat.zero_add, hY1, cell_of_row _ _ 0 _ _ (0, 0) (heap_alloc_new Y _)]; rfl
                        have h64 : In64 0 := ⟨by omega, by omega⟩
                        have hobA : ∀ b, (Value.slice A10 n10 c10).ownBlock = some b → T0[i].ops[k].lo ≤ b ∧ b < T0[i].ops[k].hi := fun b hb => by
                          obtain ⟨rows, _, _, hrow, hbb, _⟩ := HARGS.out
                          exact ⟨ownsRow_lo hrow hb, hbb b hb⟩
                        have hC8 : ∀ w', Y1.grownBy w' (Value.slice A10 n10 c10).ownBlock → w'.cell? ⟨C, k * 12 + 8, none⟩ = some (.slice A10 n10 c10) ∧ w'.frozen? ⟨C, k * 12 + 8, none⟩ = false ∧ LawW w m v w' := fun w' hg => by
                          have hY1s := hb1.size
                          have e1 : w'.heap[C]? = Y.heap[C]? := (hg.block C (by omega) (fun e => by have h1 := hobA C e.symm; exact (HINTO.out C h1.1 h1.2).2.2 rfl)).trans (hb1.block C (by omega))
                          refine ⟨(World.cell?_of_block e1).trans s8, ?_, ?_⟩
                          · have := fc8
                            unfold World.frozen? at this ⊢
                            rw [e1]
                            exact this
                          · refine LYH.out.to ⟨hg.os.trans hb1.os, hg.tape.trans hb1.tape, hg.output.trans hb1.output, Nat.le_trans hb1.size hg.size, fun b hb => ?_⟩
                            have hbb : b < Y.heap.size := by omega
                            refine (hg.block b (by omega) (fun e => ?_)).trans (hb1.block b hbb)
                            have h1 := hobA b e.symm
                            have h2 := HINTO.out b h1.1 h1.2
                            have h3 := HINT.out b h2.1 h2.2.1
                            have h4 := HYO.out.e8.all 7 (by omega)
                            have h5 := HYO.out.e8.le 7 (by omega)
                            omega
                        rw [hY1] at ha1 hz1 hC8
                        have HA1 := Lib.hid ha1
                        have HZ1 := Lib.hid hz1
                        have HB1 := Lib.hid hb1
                        have HY1 := Lib.hid hY1
                        have HC8 := Lib.hid hC8
                        have HOBA := Lib.hid hobA
                        clear hY1 hb1 ha1 hz1 hobA hC8
                        go_wp2_with (first
                          | (at_builtin; go_loud (refine wpList_append_int rfl _ _ _ _ rfl Tryd.underlying25 rfl _ info_int rfl _ _ Z.args _ rfl HA1.out (by have := HM20.out; omega) ⟨Y.heap.size, 0, none⟩ 1 0 rfl HZ1.out h64 ?_; go_loud (intro g gcap w8 hl8 hg8 hgw8 hgs8; obtain ⟨s8w, fc8w, lw8⟩ := HC8.out w8 hg8; have LW8 := Lib.hid lw8; clear lw8))))
                        go_meet
                        case rel =>
                          rw [← HY1.out] at hg8 hgw8
                          refine ⟨rfl, Lib.hid ?_, Lib.hid (LW8.out.set (p := ⟨C, k * 12 + 8, none⟩) hCw.1 _)⟩
                          exact (bentArg HYO.out HY0.out hPY HBD.out i hi0 k hkc (by have := HM20.out; rw [← HZ.out]; omega) HQ.out.symm HTT.out.1 HTT.out.2 HVF.out HAT4.out (by rw [← HZ.out]; exact HATO.out) HOBA.out HB1.out hg8 (by rw [← HZ.out]; exact hl8) hgw8 hgs8).1
                      · by_cases h4 : fld = 4
                        · subst h4
                          by_cases hk5 : Z.kind = 5 ∨ Z.kind = 6 ∨ Z.kind = 21
                          · have hb4 := bent_4 (f := m.funcs[i]) (O := m.funcs[i].code[k]) hi0 hkc (by rw [← HZ.out]; exact hk5)
                            have HR4 : Hid (BentAt P (Y.setCell ⟨C, k * 12 + 1, none⟩ (.int .i64 Yf.regs))) := Lib.hid (KO'.out 1 _ { m.funcs[i].code[k] with a := m.funcs[i].regs } (by omega) (fun va => by rw [HYF.out]; rfl) rfl (fun h => ⟨h.kind, by show In64 m.funcs[i].regs; rw [← HYF.out]; exact HFI.out.regs, h.b, h.c, h.d, h.e, h.f, h.k, h.next, h.els, h.pl⟩) hb4)
                            clear hb4
                            rcases hk5 with hk5 | hk5 | hk5
                            all_goals
                              rw [hk5] at s0
                              go_wp2
                              go_meet
                              case rel => exact ⟨rfl, HR4, Lib.hid (LO'.out _ _)⟩
                          · have hk1 : ¬ Z.kind = 5 := fun e => hk5 (.inl e)
                            have hk2 : ¬ Z.kind = 6 := fun e => hk5 (.inr (.inl e))
                            have hk3 : ¬ Z.kind = 21 := fun e => hk5 (.inr (.inr e))
                            clear hk5
                            have b1 : (Z.kind != 5) = true := by simpa using hk1
                            have b2 : (Z.kind != 6) = true := by simpa using hk2
                            have b3 : (Z.kind != 21) = true := by simpa using hk3
                            have b4 : (Z.kind == 5) = false := by simpa using hk1
                            have b5 : (Z.kind == 6) = false := by simpa using hk2
                            have b6 : (Z.kind == 21) = false := by simpa using hk3
                            go_wp2
                            go_ret
                            exact ⟨rfl, LYH.out.below⟩
                        · by_cases h5 : fld = 5
                          · subst h5
                            have p7 := (KM.out Y LYH.out).2.2.2.2.2.2.2.1
                            obtain ⟨Y1, hY1⟩ : ∃ Y1 : World, Y1 = Y.alloc (.cells #[.int .i64 (n7 : Int)] 3) := ⟨_, rfl⟩
                            have hb1 : Below Y.heap.size Y Y1 := by rw [hY1]; exact (Below.refl _ _).alloc (Nat.le_refl _) _
                            have hal := HYO.out.e8.all
                            have hth := HYO.out.e8.t
                            rw [HE8.out] at hth
                            have hsz7 : hi 7 ≤ P := by have h1 := HYO.out.top; omega
                            have ha1 : OwnH KI 3 Y1 (lo 7) (hi 7) m.threads (.slice B8 m8 d8) := hth.keep (fun b hb hb2 => hb1.block b (by omega))
                            have hz1 : Y1.cell? ((⟨Y.heap.size, 0, none⟩ : Addr).add 0) = some (.int .i64 (n7 : Int)) := by
                              rw [add_none, Nat.zero_add, hY1, cell_of_row _ _ 0 _ _ (0, 0) (heap_alloc_new Y _)]; rfl
                            have h64 : In64 (n7 : Int) := ⟨by omega, by omega⟩
                            have hobA : ∀ b, (Value.slice B8 m8 d8).ownBlock = some b → lo 7 ≤ b ∧ b < hi 7 := fun b hb => by
                              obtain ⟨rows, _, _, hrow, hbb, _⟩ := hth
                              exact ⟨ownsRow_lo hrow hb, hbb b hb⟩
                            have hlo7 : w.heap.size + 1 ≤ lo 7 := by have h4 := hal 7 (by omega); omega
                            have hC8 : ∀ w', Y1.grownBy w' (Value.slice B8 m8 d8).ownBlock → w'.cell? ⟨P, 8, none⟩ = some (.slice B8 m8 d8) ∧ w'.frozen? ⟨P, 8, none⟩ = false ∧ LawW w m v w' := fun w' hg => by
                              have hY1s := hb1.size
                              have e1 : w'.heap[P]? = Y.heap[P]? := (hg.block P (by omega) (fun e => by have h1 := hobA P e.symm; omega)).trans (hb1.block P (by omega))
                              refine ⟨(World.cell?_of_block e1).trans k8, ?_, ?_⟩
                              · have := fp8
                                unfold World.frozen? at this ⊢
                                rw [e1]
                                exact this
                              · refine LYH.out.to ⟨hg.os.trans hb1.os, hg.tape.trans hb1.tape, hg.output.trans hb1.output, Nat.le_trans hb1.size hg.size, fun b hb => ?_⟩
                                have hbb : b < Y.heap.size := by omega
                                refine (hg.block b (by omega) (fun e => ?_)).trans (hb1.block b hbb)
                                have h1 := hobA b e.symm
                                omega
                            rw [hY1] at ha1 hz1 hC8
                            have HA1 := Lib.hid ha1
                            have HZ1 := Lib.hid hz1
                            have HB1 := Lib.hid hb1
                            have HY1 := Lib.hid hY1
                            have HC8 := Lib.hid hC8
                            have hltY := LYH.out.lt
                            clear hY1 hb1 ha1 hz1 hobA hC8 hth hal
                            go_wp2_with (first
                              | (at_builtin; go_loud (refine wpList_append_int rfl _ _ _ _ rfl Tryd.underlying25 rfl _ info_int rfl _ _ m.threads _ rfl HA1.out (by have := HM20.out; omega) ⟨Y.heap.size, 0, none⟩ 1 (n7 : Int) rfl HZ1.out h64 ?_; go_loud (intro g gcap w8 hl8 hg8 hgw8 hgs8; obtain ⟨s8w, fc8w, lw8⟩ := HC8.out w8 hg8; have LW8 := Lib.hid lw8; clear lw8))))
                            go_meet
                            case rel =>
                              rw [← HY1.out] at hg8 hgw8
                              refine ⟨rfl, Lib.hid ?_, Lib.hid (LW8.out.set (p := ⟨P, 8, none⟩) hwP _)⟩
                              rw [← HE8.out] at hg8 hgw8
                              exact bentThr HYO.out HY0.out hPY HBD.out (by have := HM20.out; omega) HB1.out hg8 (n7 : Int) (by rw [HN7.out]) hl8 hgw8 hgs8
                          · by_cases h6 : fld = 6
                            · subst h6
                              go_wp2
                              go_meet
                              case rel =>
                                exact ⟨rfl, Lib.hid (bentRes HYO.out HY0.out hPY HBD.out i hi0 HVF.out hFw.2), Lib.hid (LYH.out.set (p := ⟨F, i * 5 + 3, none⟩) hFw.1 _)⟩
                            · by_cases h7 : fld = 7
                              · subst h7
                                go_wp2
                                go_meet
                                case rel =>
                                  exact ⟨rfl, Lib.hid (bentNone HYO.out HY0.out hPY HBD.out i hi0 HVF.out hFw.2), Lib.hid (LYH.out.set (p := ⟨F, i * 5 + 4, none⟩) hFw.1 _)⟩
                              · have d0 : (fld == 0) = false := by simpa using h0
                                have d1 : (fld == 1) = false := by simpa using h1
                                have d2 : (fld == 2) = false := by simpa using h2
                                have d3 : (fld == 3) = false := by simpa using h3
                                have d4 : (fld == 4) = false := by simpa using h4
                                have d5 : (fld == 5) = false := by simpa using h5
                                have d6 : (fld == 6) = false := by simpa using h6
                                have d7 : (fld == 7) = false := by simpa using h7
                                go_wp2
                                go_ret
                                exact ⟨rfl, LYH.out.below⟩
              case rest =>
                obtain ⟨rfl, HBA, LC⟩ := hcut
                obtain ⟨m', v'', hM, hPs, hI, hr, hd⟩ := HBA.out
                have hsr : showR m' = [] := by unfold showR; rw [if_neg (by rw [hr]; simp)]
                have HM := Lib.hid hM
                have HI := Lib.hid hI
                have HR := Lib.hid hr
                have HSR := Lib.hid hsr
                have C1 := Lib.hid (copyModule_any hI hd.1 hd.2)
                obtain ⟨k0, k1, k2, k3, k4, k5, k6, k7, k8⟩ := hM.all
                clear hM hI hr hd HBA hsr
                clear HYO HY0 HYG HARR HYS HZ HVF HAT4 HATO HARGS HINO HN10 HCOD HMAP HINT HINTO HYE HPE HBE HM7 HM8 HFRC HFRF HBD LYH LO' KO' KP HTT HM20 LY L4 L5 L6 HG0 HG6 HGE HE7 HX5
                simp only [Vm.arr] at C1
                go_wp2_with fail
                refine C1.out.mono ?_
                intro e w7 hn7
                obtain ⟨v7, rfl, hi7', hb7⟩ := hn7.is_
                have L7 := Lib.hid (LC.out.step hb7)
                have M7 := Lib.hid (HM.out.below hb7 hPs)
                have I7 := Lib.hid (HI.out.grow hb7)
                have hs7 := hb7.size
                have C2 := Lib.hid (show_any (hi7'.keep (S' := (· < w7.heap.size)) (fun _ _ => rfl) (fun b hb => hb.2)) L7.out.nm L7.out.tb)
                clear hn7 hi7' hb7 C1 k0 k1 k2 k3 k4 k5 k6 k7 k8
                rw [HSR.out, if_neg (by rw [HR.out]; simp), show bs [] = ⟨#[]⟩ from rfl] at C2
                simp only [Vm.arr] at C2 ⊢
                go_wp2_with fail
                refine C2.out.mono ?_
                rintro e w8 ⟨rfl, hb8⟩
                have L8 := Lib.hid (L7.out.step hb8)
                have M8 := Lib.hid (M7.out.below hb8 (by omega))
                have I8 := I7.out.grow hb8
                have C3 := Lib.hid (right_any I8)
                rw [HR.out] at C3
                obtain ⟨k0, k1, k2, k3, k4, k5, k6, k7, k8⟩ := M8.out.all
                clear hb8 C2 I8 I7
                simp only [Vm.arr] at C3
                go_wp2_with fail
                refine C3.out.mono ?_
                rintro e w9 ⟨rfl, hb9⟩
                have L9 := Lib.hid (L8.out.step hb9)
                clear hb9 C3
                go_wp2
                go_ret
                exact ⟨rfl, L9.out.below⟩
            · have g4 := HG0.out.all.2.2.2.2
              rw [HX5.out, HGE.out] at g4
              go_wp2
              go_ret
              exact ⟨rfl, (L4.out.alloc _).below⟩
        · clear HW L0 L1 L2 L3
          go_wp2
          go_ret
          exact ⟨rfl, L4.out.below⟩
  · clear HW L0 L1
    go_wp2
    go_ret
    exact ⟨rfl, L2.out.below⟩

end Go.Proofs.YtklbbphbnipegaaDoor
