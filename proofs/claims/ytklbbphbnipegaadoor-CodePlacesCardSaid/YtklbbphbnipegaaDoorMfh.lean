/- The walk of CodePlaces. -/
import Derived.Test.YtklbbphbnipegaaDoorMfc
import Derived.Test.YtklbbphbnipegaaDoorMfg
set_option linter.unusedVariables false
set_option linter.unusedSimpArgs false
set_option maxRecDepth 100000
namespace Go.Proofs.YtklbbphbnipegaaDoor
open Go.RowKit

set_option maxHeartbeats 4000000 in
theorem codePlaces_walk (w : World) {m : Mo} {v : Vm} (h : IsMo w (· < w.heap.size) m v) (pl : Int) (hpl : In64 pl) (nm : ByteArray) (hnm : NmW w) (htb : TbW w) :
    Calls Tryd.prog 6 #[.agg v.arr, .int .i64 pl, .string nm] w fun e w' => e = .returned (.bool true) ∧ Below w.heap.size w w' := by
  obtain ⟨X, hX⟩ : ∃ X : World, X = w.alloc (.cells #[v.g, v.s, v.c, v.l, v.i, v.o, v.h, v.f, v.t] 27) := ⟨_, rfl⟩
  have L0 : Hid (LawW w m v X) := Lib.hid (by rw [hX]; exact LawW.start h hnm htb)
  have HX := Lib.hid hX
  clear hX h hnm htb
  simp only [Vm.arr]
  go_enter Tryd.func6, Tryd.ntmps6
  go_wp2_with fail
  rw [← HX.out]
  refine (alive10_any L0.out.nm L0.out.tb).mono ?_
  rintro e w1 ⟨rfl, hb⟩
  have L1 := Lib.hid (L0.out.step hb)
  clear hb
  obtain ⟨p0, p1, p2, p3, p4, p5, p6, p7, p8⟩ := L1.out.blk.all
  have C := Lib.hid (weighm_any L1.out.mo 20000 (by omega) (by omega))
  obtain ⟨W, hW⟩ : ∃ W, W = weighM m 20000 := ⟨_, rfl⟩
  rw [← hW] at C
  simp only [Vm.arr] at C
  have HW := Lib.hid hW
  clear hW
  go_wp2_with fail
  refine C.out.mono ?_
  rintro e w2 ⟨rfl, hb⟩
  have L2 := Lib.hid (L1.out.step hb)
  clear hb C p0 p1 p2 p3 p4 p5 p6 p7 p8
  by_cases hle : W ≤ 20000
  · have HL := Lib.hid (lightM (by rw [← HW.out]; exact hle))
    by_cases hln : nm.size ≤ 100
    · have hd : (decide ((100 : Int) < (nm.size : Nat))) = false := by simp; omega
      obtain ⟨p0, p1, p2, p3, p4, p5, p6, p7, p8⟩ := L2.out.blk.all
      have C := Lib.hid (copyModule_any L2.out.mo (lightM.copy HL.out (by omega)).1 (lightM.copy HL.out (by omega)).2)
      simp only [Vm.arr] at C
      go_wp2_with fail
      refine C.out.mono ?_
      rintro e w3 ⟨v', lo, hi, H, T0, rfl, hown, hH, hb⟩
      have L3 := Lib.hid (L2.out.step hb)
      have HB3 := Lib.hid hb.size
      obtain ⟨B, hB⟩ : ∃ B, B = w2.heap.size := ⟨_, rfl⟩
      rw [← hB] at hown
      obtain ⟨P, hP⟩ : ∃ P, P = w3.heap.size := ⟨_, rfl⟩
      have hcp := hown.cp hH
      rw [← hP] at hcp
      obtain ⟨A0, c0, e0, hc0, hM0⟩ := hcp.is_.g.form
      obtain ⟨A1, c1, e1, hc1, hM1⟩ := hcp.is_.s.form
      obtain ⟨A2, c2, e2, hc2, hM2⟩ := hcp.is_.c.form
      obtain ⟨A3, c3, e3, hc3, hM3⟩ := hcp.is_.l.form
      obtain ⟨A4, c4, e4, hc4, hM4⟩ := hcp.is_.i.form
      obtain ⟨A5, c5, e5, hc5, hM5⟩ := hcp.is_.o.form
      obtain ⟨A6, c6, e6, hc6, hM6⟩ := hcp.is_.h.form
      obtain ⟨A7, c7, e7, hc7, hM7⟩ := hcp.is_.f.form
      obtain ⟨A8, c8, e8, hc8, hM8⟩ := hcp.is_.t.form
      obtain ⟨n0, hn0⟩ : ∃ n, n = m.globals.length := ⟨_, rfl⟩
      rw [← hn0] at e0 hc0 hM0
      obtain ⟨n1, hn1⟩ : ∃ n, n = m.structs.length := ⟨_, rfl⟩
      rw [← hn1] at e1 hc1 hM1
      obtain ⟨n2, hn2⟩ : ∃ n, n = m.chans.length := ⟨_, rfl⟩
      rw [← hn2] at e2 hc2 hM2
      obtain ⟨n3, hn3⟩ : ∃ n, n = m.locks.length := ⟨_, rfl⟩
      rw [← hn3] at e3 hc3 hM3
      obtain ⟨n4, hn4⟩ : ∃ n, n = m.inputs.length := ⟨_, rfl⟩
      rw [← hn4] at e4 hc4 hM4
      obtain ⟨n5, hn5⟩ : ∃ n, n = m.sinks.length := ⟨_, rfl⟩
      rw [← hn5] at e5 hc5 hM5
      obtain ⟨n6, hn6⟩ : ∃ n, n = m.hatches.length := ⟨_, rfl⟩
      rw [← hn6] at e6 hc6 hM6
      obtain ⟨n7, hn7⟩ : ∃ n, n = m.funcs.length := ⟨_, rfl⟩
      rw [← hn7] at e7 hc7 hM7
      obtain ⟨n8, hn8⟩ : ∃ n, n = m.threads.length := ⟨_, rfl⟩
      rw [← hn8] at e8 hc8 hM8
      have hvv : v' = ⟨.slice A0 n0 c0, .slice A1 n1 c1, .slice A2 n2 c2, .slice A3 n3 c3, .slice A4 n4 c4, .slice A5 n5 c5, .slice A6 n6 c6, .slice A7 n7 c7, .slice A8 n8 c8⟩ := by cases v'; dsimp only at e0 e1 e2 e3 e4 e5 e6 e7 e8; rw [e0, e1, e2, e3, e4, e5, e6, e7, e8]
      have harr : v'.arr = #[.slice A0 n0 c0, .slice A1 n1 c1, .slice A2 n2 c2, .slice A3 n3 c3, .slice A4 n4 c4, .slice A5 n5 c5, .slice A6 n6 c6, .slice A7 n7 c7, .slice A8 n8 c8] := by rw [hvv]; rfl
      rw [harr]
      obtain ⟨Y, hY⟩ : ∃ Y : World, Y = w3.alloc (.cells #[.slice A0 n0 c0, .slice A1 n1 c1, .slice A2 n2 c2, .slice A3 n3 c3, .slice A4 n4 c4, .slice A5 n5 c5, .slice A6 n6 c6, .slice A7 n7 c7, .slice A8 n8 c8] 27) := ⟨_, rfl⟩
      have hyb : Below w3.heap.size w3 Y := by rw [hY]; exact (Below.refl _ _).alloc (Nat.le_refl _) _
      have hys : Y.heap.size = P + 1 := by rw [hY, asz, hP]
      have hy0 : MoBlk Y P v' := by rw [hY, hP, ← harr]; exact MoBlk.of_alloc w3 v'
      have hyo : CpMo Y B P m v' lo hi H T0 := hcp.below (D := w3.heap.size) (by omega) hyb
      have HARR := Lib.hid harr
      have LY := Lib.hid (L3.out.step hyb)
      have HBP : Hid (w.heap.size + 1 ≤ B ∧ H ≤ P ∧ B ≤ P) := Lib.hid ⟨by rw [hB]; exact L2.out.size, by omega, by rw [hB, hP]; exact HB3.out⟩
      have HO := Lib.hid hyo
      have HY0 := Lib.hid hy0
      have HYE := Lib.hid hY
      have HPE := Lib.hid hP
      have HYS := Lib.hid hys
      have HE7 := Lib.hid e7
      have HE3 := Lib.hid e3
      have HN7 := Lib.hid hn7
      have HN3 := Lib.hid hn3
      have HNM : Hid (bs nm.data.toList = nm) := Lib.hid (bs_back nm)
      have HNL : Hid (nm.data.toList.length ≤ 140737488355328) := Lib.hid (by have h1 : nm.data.toList.length = nm.size := rfl; omega)
      have HPL := Lib.hid hpl
      obtain ⟨nl, hnl⟩ : ∃ nl, nl = nm.data.toList := ⟨_, rfl⟩
      rw [← hnl] at HNM HNL
      clear hb C p0 p1 p2 p3 p4 p5 p6 p7 p8 hown hH hcp hyb hys hy0 hyo e0 e1 e2 e3 e4 e5 e6 e7 e8 hn0 hn1 hn2 hn3 hn4 hn5 hn6 hn7 hn8 hY hP hB hnl hpl hvv harr
      have hbp := HBP.out
      go_wp2
      rw [← HYE.out, ← HPE.out]
      go_loopw [8] (fun x wr => ∃ (i : Nat) (fs : List Fn) (T1 : List FnT), i ≤ n7 ∧ x = .int .i64 (i : Int) ∧ Hid (CpMo wr B P { m with funcs := fs } v' lo hi H T1) ∧ Hid (ReUp nl pl m.funcs fs i) ∧ Hid (LawW w m v wr) ∧ Hid (MoBlk wr P v') ∧ wr.heap.size = P + 1) (fun x _ => n7 - (intOf x).toNat)
      case atStart => exact ⟨0, m.funcs, T0, Nat.zero_le _, rfl, HO, Lib.hid ReUp.zero, LY, HY0, HYS.out⟩
      case round =>
        obtain ⟨wo, rfl⟩ : ∃ wo : World, wo = wr := ⟨_, rfl⟩
        obtain ⟨i, fs, T1, hi2, rfl, HOW, HRE, HLW, HMB, hsz⟩ := hrel
        have k7 : wo.cell? ⟨P, 7, none⟩ = some (.slice A7 n7 c7) := by rw [← HE7.out]; exact HMB.out.cell 7
        by_cases hlt : i < n7
        · have hi0 : i < m.funcs.length := by rw [← HN7.out]; exact hlt
          have hif : i < fs.length := by rw [HRE.out.1]; exact hi0
          have hT : i < T1.length := by rw [HOW.out.len]; exact hif
          obtain ⟨F, cap, cv, hvf, hHF, hFs, hFn, hat, hfr, hcode, hmap, hint, hfin⟩ := HOW.out.fn i hif hT
          have hA : A7 = some ⟨F, 0, none⟩ := by
            have e := HE7.out
            rw [hvf] at e
            injection e with e1
            exact e1.symm
          subst hA
          have r0 := hat.c0
          have f0 := hfr (i * 5)
          obtain ⟨T2, hput⟩ := HOW.out.putName i hif nl HNL.out hvf
          rw [HNM.out] at hput
          have HP2 := Lib.hid hput
          have HR2 := Lib.hid (HRE.out.name hif)
          have hbp2 := HBP.out
          have hFB : w.heap.size + 1 ≤ F := by have h1 := HOW.out.e8.all 7 (by omega); have h2 := HOW.out.e8.le 7 (by omega); have := HOW.out.mid; have := HOW.out.low; omega
          have HL2 := Lib.hid (HLW.out.set (p := ⟨F, i * 5, none⟩) hFB (.string nm))
          have HM2 : Hid (MoBlk (wo.setCell ⟨F, i * 5, none⟩ (.string nm)) P v') := Lib.hid ((Below.heap_setCell _ _ _ P (by show P ≠ F; omega)).trans HMB.out)
          clear hat hfr hcode hmap hint hfin hput
          obtain ⟨nk, hnk⟩ : ∃ n, n = m.funcs[i].code.length := ⟨_, rfl⟩
          have hnk2 : nk ≤ 140737488355328 := by rw [hnk]; exact (HLW.out.mo.f.codes _ (List.getElem_mem hi0))
          obtain ⟨V, hV⟩ : ∃ V : World, V = wo.setCell ⟨F, i * 5, none⟩ (.string nm) := ⟨_, rfl⟩
          have hVs : V.heap.size = P + 1 := by rw [hV, csz]; exact hsz
          rw [← hV] at HP2 HL2 HM2
          have HVE := Lib.hid hV
          have HNK := Lib.hid hnk
          clear hV hnk
          go_wp2
          rw [← HVE.out]
          clear k7 r0 f0
          go_loopw [9] (fun x wr => ∃ (k : Nat) (fs2 : List Fn) (T3 : List FnT), k ≤ nk ∧ x = .int .i64 (k : Int) ∧ Hid (CpMo wr B P { m with funcs := fs2 } v' lo hi H T3) ∧ Hid (ReIn nl pl m.funcs fs2 i k) ∧ Hid (LawW w m v wr) ∧ Hid (MoBlk wr P v') ∧ wr.heap.size = P + 1) (fun x _ => nk - (intOf x).toNat)
          case atStart => exact ⟨0, _, T2, Nat.zero_le _, rfl, HP2, HR2, HL2, HM2, hVs⟩
          case round =>
            obtain ⟨wi, rfl⟩ : ∃ wi : World, wi = wr := ⟨_, rfl⟩
            obtain ⟨k, fs2, T3, hk2, rfl, HOI, HRI, HLI, HMI, hszi⟩ := hrel
            have k7 : wi.cell? ⟨P, 7, none⟩ = some (.slice (some ⟨F, 0, none⟩) n7 c7) := by rw [← HE7.out]; exact HMI.out.cell 7
            have hif2 : i < fs2.length := by rw [HRI.out.1]; exact hi0
            have hT3 : i < T3.length := by rw [HOI.out.len]; exact hif2
            have hfe := HRI.out.at_ hif2 hi0
            obtain ⟨F', cap', cv', hvf', hHF', hFs', hFn', hat', hfr', hcode', hmap', hint', hfin'⟩ := HOI.out.fn i hif2 hT3
            have hFF : F' = F := by
              have e := HE7.out
              rw [hvf'] at e
              injection e with e1
              injection e1 with e1
              injection e1
            subst hFF
            have hlk : fs2[i].code.length = nk := by rw [hfe, reK_len (by rw [← HNK.out]; exact hk2), HNK.out]
            obtain ⟨AC, cC, ecv, -, -⟩ := hcode'.lies.form
            have hlo : T3[i].ops.length = nk := by rw [← hlk, ← List.length_map, hmap']
            rw [hlo] at ecv
            have r4 := hat'.c4
            rw [ecv] at r4
            by_cases hlk2 : k < nk
            · have hkc : k < fs2[i].code.length := by rw [hlk]; exact hlk2
              have hk0 : k < m.funcs[i].code.length := by rw [← HNK.out]; exact hlk2
              obtain ⟨C, capC, va, hcv, hlC, hCh, hatO, hfrC, -, -, hinO, hopO⟩ := opH_at hcode' hmap' k hkc (by rw [hlo]; exact hlk2)
              have hAC : AC = some ⟨C, 0, none⟩ := by
                rw [ecv] at hcv
                injection hcv with e1
              subst hAC
              have s11 := hatO.c11
              have f11 := hfrC (k * 12 + 11)
              obtain ⟨T4, hput⟩ := HOI.out.putO i hif2 k hkc 11 (by omega) (.int .i64 pl) (reO pl fs2[i].code[k]) hvf' hat'.c4 hcv (fun va => rfl) rfl (fun h => ⟨h.kind, h.a, h.b, h.c, h.d, h.e, h.f, h.k, h.next, h.els, HPL.out⟩)
              have HPO : Hid (CpMo (wi.setCell ⟨C, k * 12 + 11, none⟩ (.int .i64 pl)) B P { m with funcs := fs2.set i { fs2[i] with code := fs2[i].code.set k (reO pl fs2[i].code[k]) } } v' lo hi H T4) := Lib.hid hput
              have HRO := Lib.hid (HRI.out.step hif2 hi0 hk0 hkc)
              have hbp3 := HBP.out
              have hcC := hint' C hlC hCh
              have hFC : w.heap.size + 1 ≤ C := by have h1 := HOI.out.e8.all 7 (by omega); have h2 := HOI.out.e8.le 7 (by omega); have := HOI.out.mid; have := HOI.out.low; omega
              have HLO := Lib.hid (HLI.out.set (p := ⟨C, k * 12 + 11, none⟩) hFC (.int .i64 pl))
              have HMO : Hid (MoBlk (wi.setCell ⟨C, k * 12 + 11, none⟩ (.int .i64 pl)) P v') := Lib.hid ((Below.heap_setCell _ _ _ P (by show P ≠ C; omega)).trans HMI.out)
              clear hat' hfr' hcode' hmap' hint' hfin' hput hatO hfrC hinO hopO hcv ecv hfe hvf' HOI HRI
              go_wp2
              go_roundw
              case rel => exact ⟨k + 1, _, T4, by omega, by go_num, HPO, HRO, HLO, HMO, by rw [csz]; exact hszi⟩
              case measure => simp [intOf]; omega
            · have HRU := Lib.hid (HRI.out.out hi0 (by rw [← HNK.out]; omega))
              clear hat' hfr' hcode' hmap' hint' hfin' ecv hfe hvf' HOW HRE HLW HMB HP2 HR2 HL2 HM2 HRI
              go_wp2
              go_roundw
              case rel => exact ⟨i + 1, fs2, T3, by omega, by go_num, HOI, HRU, HLI, HMI, hszi⟩
              case measure => simp [intOf]; omega
        · have hfsd := HRE.out.done (by rw [← HN7.out]; omega)
          subst hfsd
          have HLK0 : Hid (CpMo wo B P { m with funcs := m.funcs.map (reF nl pl), locks := m.locks } v' lo hi H T1) := HOW
          clear HOW HRE HO LY HY0
          go_wp2
          clear k7
          go_loopw [10] (fun x wr => ∃ (i2 : Nat) (ls : List (List UInt8)), i2 ≤ n3 ∧ x = .int .i64 (i2 : Int) ∧ Hid (CpMo wr B P { m with funcs := m.funcs.map (reF nl pl), locks := ls } v' lo hi H T1) ∧ Hid (ReLk nl m.locks ls i2) ∧ Hid (LawW w m v wr) ∧ Hid (MoBlk wr P v') ∧ wr.heap.size = P + 1) (fun x _ => n3 - (intOf x).toNat)
          case atStart => exact ⟨0, m.locks, Nat.zero_le _, rfl, HLK0, Lib.hid ReLk.zero, HLW, HMB, hsz⟩
          case round =>
            obtain ⟨wi, rfl⟩ : ∃ wi : World, wi = wr := ⟨_, rfl⟩
            obtain ⟨i2, ls, hi3, rfl, HOI, HRI, HLI, HMI, hszi⟩ := hrel
            have k3 : wi.cell? ⟨P, 3, none⟩ = some (.slice A3 n3 c3) := by rw [← HE3.out]; exact HMI.out.cell 3
            by_cases hlt3 : i2 < n3
            · have hil : i2 < ls.length := by rw [HRI.out.1, ← HN3.out]; exact hlt3
              obtain ⟨L, capL, row, hvl, -, hloL, hLhi, ⟨hrw, -⟩, hcell, hfrL⟩ := HOI.out.e8.l.at_ i2 hil
              have hA3 : A3 = some ⟨L, 0, none⟩ := by
                have e := HE3.out
                rw [hvl] at e
                injection e with e1
                exact e1.symm
              subst hA3
              have r0' : wi.cell? ⟨L, i2, none⟩ = some (.string (bs ls[i2])) := by
                have r0 := hcell 0 (by decide)
                rw [hrw, show i2 * KT.sz + 0 = i2 from by show i2 * 1 + 0 = i2; omega] at r0
                exact r0
              have f0 := hfrL i2
              have hput := HOI.out.putLock i2 hil nl HNL.out hvl
              rw [HNM.out] at hput
              have HPO : Hid (CpMo (wi.setCell ⟨L, i2, none⟩ (.string nm)) B P { m with funcs := m.funcs.map (reF nl pl), locks := ls.set i2 nl } v' lo hi H T1) := Lib.hid hput
              have HRO := Lib.hid (HRI.out.step hil)
              have hbp3 := HBP.out
              have hLB : w.heap.size + 1 ≤ L ∧ L < P := by have h1 := HOI.out.e8.all 3 (by omega); have := HOI.out.mid; have := HOI.out.low; omega
              have HLO := Lib.hid (HLI.out.set (p := ⟨L, i2, none⟩) hLB.1 (.string nm))
              have HMO : Hid (MoBlk (wi.setCell ⟨L, i2, none⟩ (.string nm)) P v') := Lib.hid ((Below.heap_setCell _ _ _ P (by show P ≠ L; omega)).trans HMI.out)
              clear hcell hfrL hput hvl hrw HOI HRI
              go_wp2
              go_roundw
              case rel => exact ⟨i2 + 1, _, by omega, by go_num, HPO, HRO, HLO, HMO, by rw [csz]; exact hszi⟩
              case measure => simp [intOf]; omega
            · have hlsd := HRI.out.done (by rw [← HN3.out]; omega)
              subst hlsd
              have HOF : Hid (CpMo wi B P (reM nl pl m) v' lo hi H T1) := HOI
              have KP : Hid (∀ wx, MoBlk wx P v' → wx.cell? ⟨P, 0, none⟩ = some (.slice A0 n0 c0) ∧ wx.cell? ⟨P, 1, none⟩ = some (.slice A1 n1 c1) ∧ wx.cell? ⟨P, 2, none⟩ = some (.slice A2 n2 c2) ∧ wx.cell? ⟨P, 3, none⟩ = some (.slice A3 n3 c3) ∧ wx.cell? ⟨P, 4, none⟩ = some (.slice A4 n4 c4) ∧ wx.cell? ⟨P, 5, none⟩ = some (.slice A5 n5 c5) ∧ wx.cell? ⟨P, 6, none⟩ = some (.slice A6 n6 c6) ∧ wx.cell? ⟨P, 7, none⟩ = some (.slice A7 n7 c7) ∧ wx.cell? ⟨P, 8, none⟩ = some (.slice A8 n8 c8)) := Lib.hid (fun wx hx => by
                unfold MoBlk at hx
                rw [HARR.out] at hx
                have hc := fun j => cell_of_row wx P j _ _ (0, 0) hx
                exact ⟨hc 0, hc 1, hc 2, hc 3, hc 4, hc 5, hc 6, hc 7, hc 8⟩)
              have KM : Hid (∀ wx, LawW w m v wx → wx.cell? ⟨w.heap.size, 0, none⟩ = some v.g ∧ wx.cell? ⟨w.heap.size, 1, none⟩ = some v.s ∧ wx.cell? ⟨w.heap.size, 2, none⟩ = some v.c ∧ wx.cell? ⟨w.heap.size, 3, none⟩ = some v.l ∧ wx.cell? ⟨w.heap.size, 4, none⟩ = some v.i ∧ wx.cell? ⟨w.heap.size, 5, none⟩ = some v.o ∧ wx.cell? ⟨w.heap.size, 6, none⟩ = some v.h ∧ wx.cell? ⟨w.heap.size, 7, none⟩ = some v.f ∧ wx.cell? ⟨w.heap.size, 8, none⟩ = some v.t) := Lib.hid (fun wx hx => hx.blk.all)
              have hbel : ∀ wx, Below wi.heap.size wi wx → IsMo wx (· < wx.heap.size) (reM nl pl m) v' := fun wx hb => by
                have h1 := (HOF.out.below (D := wi.heap.size) (by omega) hb).is_
                have h2 := hb.size
                exact h1.keep (fun _ _ => rfl) (fun b hb2 => by omega)
              obtain ⟨q, hq⟩ : ∃ q, q = rightM m := ⟨_, rfl⟩
              obtain ⟨us, hus⟩ : ∃ us, us = bs (showR m) := ⟨_, rfl⟩
              obtain ⟨en, hen⟩ : ∃ en : Int, en = if rightM m = true then 0 else 70 := ⟨_, rfl⟩
              have C1 : Hid (∀ wx, LawW w m v wx → Calls Tryd.prog 10 #[.agg #[v.g, v.s, v.c, v.l, v.i, v.o, v.h, v.f, v.t]] wx (NewMo wx m)) := Lib.hid (fun wx hx => copyModule_any hx.mo (lightM.copy HL.out (by omega)).1 (lightM.copy HL.out (by omega)).2)
              have C2 : Hid (∀ wx (u : Vm), IsMo wx (· < wx.heap.size) m u → LawW w m v wx → Calls Tryd.prog 18 #[.agg u.arr] wx fun e w' => e = .returned (.tuple #[.string us, .int .i64 en]) ∧ Below wx.heap.size wx w') := Lib.hid (fun wx u hu hx => by
                have := show_any hu hx.nm hx.tb
                rw [← hus, ← hen] at this
                exact this)
              have C3 : Hid (∀ wx, Below wi.heap.size wi wx → LawW w m v wx → Calls Tryd.prog 18 #[.agg #[.slice A0 n0 c0, .slice A1 n1 c1, .slice A2 n2 c2, .slice A3 n3 c3, .slice A4 n4 c4, .slice A5 n5 c5, .slice A6 n6 c6, .slice A7 n7 c7, .slice A8 n8 c8]] wx fun e w' => e = .returned (.tuple #[.string us, .int .i64 en]) ∧ Below wx.heap.size wx w') := Lib.hid (fun wx hb hx => by
                have := show_any (hbel wx hb) hx.nm hx.tb
                rw [showR_re, rightM_re, ← hus, ← hen, HARR.out] at this
                exact this)
              have C4 : Hid (∀ wx (u : Vm), IsMo wx (· < wx.heap.size) m u → Calls Tryd.prog 11 #[.agg u.arr] wx fun e w' => e = .returned (.bool q) ∧ Below wx.heap.size wx w') := Lib.hid (fun wx u hu => by
                have := right_any hu
                rw [← hq] at this
                exact this)
              have C5 : Hid (∀ wx, Below wi.heap.size wi wx → Calls Tryd.prog 11 #[.agg #[.slice A0 n0 c0, .slice A1 n1 c1, .slice A2 n2 c2, .slice A3 n3 c3, .slice A4 n4 c4, .slice A5 n5 c5, .slice A6 n6 c6, .slice A7 n7 c7, .slice A8 n8 c8]] wx fun e w' => e = .returned (.bool q) ∧ Below wx.heap.size wx w') := Lib.hid (fun wx hb => by
                have := right_any (hbel wx hb)
                rw [rightM_re, ← hq, HARR.out] at this
                exact this)
              have HB0 := Lib.hid (Below.refl wi.heap.size wi)
              have hPi : P < wi.heap.size := by omega
              obtain ⟨p0, p1, p2, p3, p4, p5, p6, p7, p8⟩ := KM.out wi HLI.out
              clear hq hus hen hbel HOF HOI HRI HARR HYE HLK0 HLW HMB
              go_wp2_with fail
              refine (C1.out wi HLI.out).mono ?_
              intro e wa hnm1
              obtain ⟨va, rfl, hia, hba⟩ := hnm1.is_
              have LA := Lib.hid (HLI.out.step hba)
              have BA := Lib.hid (HB0.out.trans (hba.mono (Nat.le_refl _)))
              have MA := Lib.hid (HMI.out.below hba hPi)
              have D := Lib.hid (C2.out wa va (hia.keep (fun _ _ => rfl) (fun b hb => hb.2)) LA.out)
              clear hnm1 hia hba p0 p1 p2 p3 p4 p5 p6 p7 p8 k3
              simp only [Vm.arr] at D ⊢
              go_wp2_with fail
              refine D.out.mono ?_
              rintro e wb ⟨rfl, hbb⟩
              have LB := Lib.hid (LA.out.step hbb)
              have BB := Lib.hid (BA.out.trans (hbb.mono BA.out.size))
              have MB := Lib.hid (MA.out.below hbb (by have := BA.out.size; omega))
              clear hbb D
              obtain ⟨k0, k1, k2, k3, k4, k5, k6, k7, k8⟩ := KP.out wb MB.out
              go_wp2_with fail
              refine (C3.out wb BB.out LB.out).mono ?_
              rintro e wd ⟨rfl, hbd⟩
              have LD := Lib.hid (LB.out.step hbd)
              have BD := Lib.hid (BB.out.trans (hbd.mono BB.out.size))
              have MD := Lib.hid (MB.out.below hbd (by have := BB.out.size; omega))
              clear hbd k0 k1 k2 k3 k4 k5 k6 k7 k8
              obtain ⟨p0, p1, p2, p3, p4, p5, p6, p7, p8⟩ := KM.out wd LD.out
              obtain ⟨k0, k1, k2, k3, k4, k5, k6, k7, k8⟩ := KP.out wd MD.out
              have LE := Lib.hid LD.out.drew
              have BE : Hid (Below wi.heap.size wi wd.drew) := Lib.hid BD.out.drew
              have ME : Hid (MoBlk wd.drew P v') := MD
              clear C2 C3 HMI HLI LA LB BA BB MA MB HB0
              have KK : Hid (∀ wx, LawW w m v wx → MoBlk wx P v' → (wx.cell? ⟨w.heap.size, 0, none⟩ = some v.g ∧ wx.cell? ⟨w.heap.size, 1, none⟩ = some v.s ∧ wx.cell? ⟨w.heap.size, 2, none⟩ = some v.c ∧ wx.cell? ⟨w.heap.size, 3, none⟩ = some v.l ∧ wx.cell? ⟨w.heap.size, 4, none⟩ = some v.i ∧ wx.cell? ⟨w.heap.size, 5, none⟩ = some v.o ∧ wx.cell? ⟨w.heap.size, 6, none⟩ = some v.h ∧ wx.cell? ⟨w.heap.size, 7, none⟩ = some v.f ∧ wx.cell? ⟨w.heap.size, 8, none⟩ = some v.t) ∧ (wx.cell? ⟨P, 0, none⟩ = some (.slice A0 n0 c0) ∧ wx.cell? ⟨P, 1, none⟩ = some (.slice A1 n1 c1) ∧ wx.cell? ⟨P, 2, none⟩ = some (.slice A2 n2 c2) ∧ wx.cell? ⟨P, 3, none⟩ = some (.slice A3 n3 c3) ∧ wx.cell? ⟨P, 4, none⟩ = some (.slice A4 n4 c4) ∧ wx.cell? ⟨P, 5, none⟩ = some (.slice A5 n5 c5) ∧ wx.cell? ⟨P, 6, none⟩ = some (.slice A6 n6 c6) ∧ wx.cell? ⟨P, 7, none⟩ = some (.slice A7 n7 c7) ∧ wx.cell? ⟨P, 8, none⟩ = some (.slice A8 n8 c8))) := Lib.hid (fun wx hx hy => ⟨KM.out wx hx, KP.out wx hy⟩)
              go_wp2_with fail
              go_region_held3 (fun w' => (w'.cell? ⟨w.heap.size, 0, none⟩ = some v.g ∧ w'.cell? ⟨w.heap.size, 1, none⟩ = some v.s ∧ w'.cell? ⟨w.heap.size, 2, none⟩ = some v.c ∧ w'.cell? ⟨w.heap.size, 3, none⟩ = some v.l ∧ w'.cell? ⟨w.heap.size, 4, none⟩ = some v.i ∧ w'.cell? ⟨w.heap.size, 5, none⟩ = some v.o ∧ w'.cell? ⟨w.heap.size, 6, none⟩ = some v.h ∧ w'.cell? ⟨w.heap.size, 7, none⟩ = some v.f ∧ w'.cell? ⟨w.heap.size, 8, none⟩ = some v.t) ∧ (w'.cell? ⟨P, 0, none⟩ = some (.slice A0 n0 c0) ∧ w'.cell? ⟨P, 1, none⟩ = some (.slice A1 n1 c1) ∧ w'.cell? ⟨P, 2, none⟩ = some (.slice A2 n2 c2) ∧ w'.cell? ⟨P, 3, none⟩ = some (.slice A3 n3 c3) ∧ w'.cell? ⟨P, 4, none⟩ = some (.slice A4 n4 c4) ∧ w'.cell? ⟨P, 5, none⟩ = some (.slice A5 n5 c5) ∧ w'.cell? ⟨P, 6, none⟩ = some (.slice A6 n6 c6) ∧ w'.cell? ⟨P, 7, none⟩ = some (.slice A7 n7 c7) ∧ w'.cell? ⟨P, 8, none⟩ = some (.slice A8 n8 c8))) (first | with_reducible exact KK.out _ LE.out ME.out | with_reducible exact KK.out _ L7.out M7.out | with_reducible exact KK.out _ L8.out M8.out | with_reducible exact KK.out _ L9.out M9.out | go_keep)
                (first
                  | (go_at_call 10; with_reducible refine (C1.out _ LE.out).mono ?_; (intro e w7 hn7; obtain ⟨v7, rfl, hi7, hb7⟩ := hn7.is_; have L7 := Lib.hid (LE.out.step hb7); have B7 := Lib.hid (BE.out.trans (hb7.mono BE.out.size)); have M7 := Lib.hid (ME.out.below hb7 (by have := BE.out.size; omega)); have D7 := Lib.hid (C4.out w7 v7 (hi7.keep (fun _ _ => rfl) (fun b hb => hb.2))); simp only [Vm.arr] at D7; simp only [Vm.arr]; clear hn7 hi7 hb7))
                  | (go_at_call 11; with_reducible refine (D7.out).mono ?_; (rintro e w8 ⟨rfl, hb8⟩; have L8 := Lib.hid (L7.out.step hb8); have B8 := Lib.hid (B7.out.trans (hb8.mono B7.out.size)); have M8 := Lib.hid (M7.out.below hb8 (by have := B7.out.size; omega)); clear hb8))
                  | (go_at_call 11; with_reducible refine (C5.out _ B8.out).mono ?_; (rintro e w9 ⟨rfl, hb9⟩; have L9 := Lib.hid (L8.out.step hb9); have M9 := Lib.hid (M8.out.below hb9 (by have := B8.out.size; omega)); clear hb9)))
              all_goals
                go_wp2
                go_ret
                exact ⟨rfl, L9.out.below⟩
    · have hd : (decide ((100 : Int) < (nm.size : Nat))) = true := by simp; omega
      clear HW L0 L1 HL
      go_wp2
      go_ret
      exact ⟨rfl, L2.out.below⟩
  · clear HW L0 L1
    go_wp2
    go_ret
    exact ⟨rfl, L2.out.below⟩

end Go.Proofs.YtklbbphbnipegaaDoor
