/- Package code: the walk of Show. -/
import Derived.Test.YtgohnlcgidmlfaaDoorMer
set_option linter.unusedVariables false
set_option linter.unusedSimpArgs false
namespace Go.Proofs.YtgohnlcgidmlfaaDoor
open Go.RowKit

def f5L (i : Nat) (Y : Fn) : List Value := [.iface 9 (.string ⟨#[102, 117, 110, 99]⟩), .iface 3 (.int .i64 (i : Int)), .iface 3 (.int .i64 Y.params), .iface 3 (.int .i64 Y.regs), .iface 3 (.int .i64 Y.result)]
theorem In64.nat {k : Nat} (h : k ≤ 140737488355328) : In64 (k : Int) := ⟨by omega, by omega⟩

set_option maxHeartbeats 4000000 in
set_option maxRecDepth 100000 in
theorem show_any {w : World} {m : Mo} {v : Vm} (h : IsMo w (· < w.heap.size) m v) (hnm : NmW w) (htb : TbW w) :
    Calls Tryd.prog 18 #[.agg v.arr] w fun e w' => e = .returned (.tuple #[.string (bs (showR m)), .int .i64 (if rightM m = true then 0 else 70)]) ∧ Below w.heap.size w w' := by
  obtain ⟨X, hX⟩ : ∃ X : World, X = w.alloc (.cells #[v.g, v.s, v.c, v.l, v.i, v.o, v.h, v.f, v.t] 27) := ⟨_, rfl⟩
  have hxb : Below w.heap.size w X := by rw [hX]; exact (Below.refl _ w).alloc (Nat.le_refl _) _
  have hx1 : MoBlk X w.heap.size v := by rw [hX]; exact MoBlk.grow
  have hxs : X.heap.size = w.heap.size + 1 := by rw [hX, asz]
  have C0 := Lib.hid (right_any (h.grow hxb))
  have hgn : 0 < w.heap.size := (cell_in (hnm 1 (by omega))).1
  obtain ⟨A7, c7, e7, hc7, hl7⟩ := h.f.form
  obtain ⟨n7, hn7⟩ : ∃ n, n = m.funcs.length := ⟨_, rfl⟩
  have hfl := h.f
  rw [e7] at hfl
  rw [← hn7] at e7 hl7 hfl
  obtain ⟨q, hq⟩ : ∃ q, q = rightM m := ⟨_, rfl⟩
  have HRP : Hid (q = true → RightP m) := Lib.hid (fun h => rightP (hq ▸ h))
  have HSR : Hid (showR m = if q = true then showU m n7 else []) := Lib.hid (by rw [hq, hn7]; rfl)
  rw [← hq] at C0 ⊢
  simp only [Vm.arr] at C0 ⊢
  have CC := Lib.hid (fun wx (hb : Below X.heap.size X wx) => show wx.cell? ⟨w.heap.size, 7, none⟩ = some (.slice A7 n7 c7) from by rw [← e7]; exact (hx1.below hb (by omega)).cell 7)
  have HX := Lib.hid hX
  have HXB := Lib.hid hxb
  have HXS := Lib.hid hxs
  have HNM := Lib.hid hnm
  have HTB := Lib.hid htb
  have HFL := Lib.hid hfl
  have HN7 := Lib.hid hn7
  clear hX hxb hx1 hxs e7 hn7 hfl hq h hnm htb
  go_enter Tryd.func18, Tryd.ntmps18
  go_wp2_with fail
  rw [← HX.out]
  with_reducible refine C0.out.mono ?_
  rintro e w1 ⟨rfl, h1⟩
  have HB1 := Lib.hid h1
  have HE1 := Lib.hid (HXB.out.trans (h1.mono (by have := HXS.out; omega)))
  have k7 := CC.out w1 h1
  have hs1 : w.heap.size + 1 ≤ w1.heap.size := by have := h1.size; have := HXS.out; omega
  clear h1 C0 CC
  cases q with
  | false =>
    have HS : Hid (showR m = []) := Lib.hid (by rw [HSR.out]; rfl)
    clear HRP HSR
    go_wp2
    exact bodyPost_ret (v := .tuple #[.string ⟨#[]⟩, .int .i64 70]) (by simp [results, Tryd.results18, go_sem]) rfl ⟨by rw [HS.out]; rfl, HE1.out⟩
  | true =>
    have HR := Lib.hid (HRP.out (by first | rfl | trivial))
    have HS : Hid (showR m = showU m n7) := Lib.hid (by rw [HSR.out]; rfl)
    clear HRP HSR
    obtain ⟨g, hg⟩ : ∃ g, g = w1.heap.size := ⟨_, rfl⟩
    obtain ⟨W1, hW1⟩ : ∃ W1 : World, W1 = w1.alloc (.cells #[.slice none 0 0] 61) := ⟨_, rfl⟩
    have hp0 : Pg W1 (g + 1) g [] := by
      rw [hW1, hg]
      exact ⟨_, heap_alloc_new w1 _, World.ownsRow_nil _ _ _ _, by omega, by rw [asz]; omega⟩
    have hwb : Below w.heap.size w W1 := by rw [hW1]; exact HE1.out.alloc (by omega) _
    have hws : W1.heap.size = g + 1 := by rw [hW1, hg, asz]
    have hz7 : w.heap.size < w1.heap.size := by omega
    have HP0 := Lib.hid hp0
    have HWB := Lib.hid hwb
    have HWS := Lib.hid hws
    have HW1 := Lib.hid hW1
    have HG := Lib.hid hg
    have hwg : w.heap.size + 1 ≤ g := by omega
    -- what lies in the caller's memory stays
    have hk : ∀ wx, Went (g + 1) g W1 wx → ∀ b, b < w.heap.size → wx.heap[b]? = w.heap[b]? := fun wx hwx b hb => (hwx.below b (by omega) (by omega)).trans (hwb.block b hb)
    have ht : ∀ wx, Went (g + 1) g W1 wx → Lib.TabBelow Tryd.prog g wx "internal/strconv.uint64pow10" .u64 Lib.pow10Tab := fun wx hwx w' hb => HTB.out.on (hwb.trans ((hwx.bel (by omega)).mono (by omega))) w' (hb.mono (by omega))
    have HK := Lib.hid hk
    have HT := Lib.hid ht
    clear hp0 hwb hws hW1 hg hk ht
    go_wp2
    rw [← HW1.out, ← HG.out]
    clear k7
    go_loopw [15] (fun x wr => ∃ i : Nat, i ≤ n7 ∧ x = .int .i64 (i : Int) ∧ Hid (Pg wr (g + 1) g (showU m i)) ∧ Hid (Went (g + 1) g W1 wr) ∧ Hid ((showU m i).length ≤ 100 * i + 23000 * sumN (m.funcs.take i)) ∧ g + 1 ≤ wr.heap.size) (fun x _ => n7 - (intOf x).toNat)
    case atStart => exact ⟨0, Nat.zero_le _, rfl, HP0, Lib.hid (Went.refl _ _ _), Lib.hid (by simp [showU]), by have := HWS.out; omega⟩
    case round =>
      obtain ⟨wo, rfl⟩ : ∃ wo : World, wo = wr := ⟨_, rfl⟩
      obtain ⟨i, hi, rfl, HP, HW, HL, hso⟩ := hrel
      by_cases hlt : i < n7
      · have hie : i < m.funcs.length := by rw [← HN7.out]; exact hlt
        obtain ⟨b, off, cv, rfl, hbS, hat, hcode, hfin⟩ := HFL.out.fn i hie
        have hmem := List.getElem_mem hie
        have hsn := sumN_take hie
        have hsu := showU_succ hie
        have hkk := HR.out.kinds _ hmem
        obtain ⟨Y, hY⟩ : ∃ Y, Y = m.funcs[i] := ⟨_, rfl⟩
        rw [← hY] at hat hcode hfin hsn hsu hkk
        obtain ⟨A9, c9, rfl, -, hl9⟩ := hcode.form
        obtain ⟨n9, hn9⟩ : ∃ n, n = Y.code.length := ⟨_, rfl⟩
        rw [← hn9] at hat hcode hl9 hsn
        obtain ⟨r0, r1, r2, r3, r4⟩ := hat.keep (HK.out wo HW.out b hbS)
        have hiI := In64.nat (show i ≤ 140737488355328 by omega)
        have hfp := funcPts_len (i := i) (f := Y) hiI hfin
        obtain ⟨P, hP⟩ : ∃ P, P = wo.heap.size := ⟨_, rfl⟩
        obtain ⟨X1, hX1⟩ : ∃ X1 : World, X1 = wo.alloc (.cells #[.string (bs Y.name), .int .i64 Y.params, .int .i64 Y.regs, .int .i64 Y.result, .slice A9 n9 c9] 39) := ⟨_, rfl⟩
        have hx1 : FnBlk X1 P Y (.slice A9 n9 c9) := by rw [hX1, hP]; exact FnBlk.new wo Y _
        have hx1s : X1.heap.size = P + 1 := by rw [hX1, hP, asz]
        have hx1b : Below wo.heap.size wo X1 := by rw [hX1]; exact (Below.refl _ wo).alloc (Nat.le_refl _) _
        have hpx : Pg X1 (g + 1) g (showU m i) := HP.out.keep hx1b
        have hwx : Went (g + 1) g W1 X1 := HW.out.trans (Went.of hx1b hso)
        have hbnd : (showU m i).length ≤ 100000000 := by have h1 := HL.out; have h2 := HR.out.sum; have h3 := HR.out.few.1; omega
        obtain ⟨X2, hX2⟩ : ∃ X2 : World, X2 = X1.alloc (.cells #[.iface 9 (.string ⟨#[102, 117, 110, 99]⟩), .iface 3 (.int .i64 (i : Int)), .iface 3 (.int .i64 Y.params), .iface 3 (.int .i64 Y.regs), .iface 3 (.int .i64 Y.result)] 20) := ⟨_, rfl⟩
        have hrow : X2.heap[P + 1]? = some (.cells (f5L i Y).toArray 20 (0, 0)) := by rw [hX2, ← hx1s]; exact heap_alloc_new X1 _
        have hx2b : Below X1.heap.size X1 X2 := by rw [hX2]; exact (Below.refl _ _).alloc (Nat.le_refl _) _
        have ho2 : X2.ownsRow (P + 1) 20 1 (.slice (some ⟨P + 1, 0, none⟩) 5 5) 5 (f5L i Y) := ⟨rfl, .inr ⟨P + 1, 5, _, rfl, Nat.le_refl _, hrow, Nat.le_refl _, by unfold maxLen; omega, rfl, rfl⟩⟩
        have hline := line_own (S := fun _ => False) (ps := funcPts i Y) hpx hx2b (by omega) (fun _ _ b hb => hb.elim) ho2 (by simp [funcPts]) (by simp [funcPts, f5L]) (by simp [funcPts]) (fun k hk hk' => by
            have hc : k = 0 ∨ k = 1 ∨ k = 2 ∨ k = 3 ∨ k = 4 := by simp [funcPts] at hk; omega
            rcases hc with rfl | rfl | rfl | rfl | rfl
            · exact ⟨rfl, by simp⟩
            · exact ⟨rfl, hiI⟩
            · exact ⟨rfl, hfin.params⟩
            · exact ⟨rfl, hfin.regs⟩
            · exact ⟨rfl, hfin.result⟩) (by have := hfp.2; omega) (by simp [funcPts, ptsT, ptT]) (HT.out X1 hwx)
        have HLINE := Lib.hid hline
        have HX1E := Lib.hid hX1
        have HPE := Lib.hid hP
        have HX1 := Lib.hid hx1
        have HX1S := Lib.hid hx1s
        have HWX := Lib.hid hwx
        have HX2E := Lib.hid hX2
        have HCO := Lib.hid hcode
        have HKK := Lib.hid hkk
        have HSN := Lib.hid hsn
        have HSU := Lib.hid hsu
        have HN9 := Lib.hid hn9
        have HFP := Lib.hid hfp
        have HBND := Lib.hid hbnd
        have hbs : b < wo.heap.size := by omega
        have hPg : g + 1 ≤ P := by omega
        clear hat hcode hfin hsn hsu hkk hmem hiI hfp hX1 hP hx1 hx1s hx1b hpx hwx hbnd hX2 hrow hx2b ho2 hline hn9 hY
        go_wp2_with fail
        rw [← HX1E.out, ← HPE.out]
        rw [← HX2E.out]
        with_reducible refine HLINE.out.mono ?_
        rintro e w2 ⟨rfl, hp2, hw2⟩
        have HP2 := Lib.hid hp2
        have HW2 := Lib.hid hw2
        have fb : ∀ wx, Went (g + 1) g X1 wx → FnBlk wx P Y (.slice A9 n9 c9) := fun wx hwx => by
          have h0 := HX1.out
          unfold FnBlk at h0 ⊢
          exact hwx.others _ _ h0 (fun e => by have := Option.some.inj e; omega) (fun c fz e => by injection e with _ e2 _; exact absurd e2 (by decide))
        have k4 := (fb w2 hw2).all.2.2.2.2
        have FB := Lib.hid fb
        have hs2 : P + 1 ≤ w2.heap.size := by have := hw2.size; have := HX1S.out; omega
        clear hp2 hw2 HLINE r0 r1 r2 r3 r4 fb
        go_wp2
        clear k4
        go_loopw [37] (fun x wr => ∃ k : Nat, k ≤ n9 ∧ x = .int .i64 (k : Int) ∧ Hid (Pg wr (g + 1) g (showU m i ++ lineT (funcPts i Y) ++ opsU Y.code k)) ∧ Hid (Went (g + 1) g X1 wr) ∧ Hid ((opsU Y.code k).length ≤ 23000 * k) ∧ P + 1 ≤ wr.heap.size) (fun x _ => n9 - (intOf x).toNat)
        case atStart => exact ⟨0, Nat.zero_le _, rfl, Lib.hid (by simpa [opsU] using HP2.out), HW2, Lib.hid (by simp [opsU]), hs2⟩
        case round =>
          obtain ⟨wi, rfl⟩ : ∃ wi : World, wi = wr := ⟨_, rfl⟩
          obtain ⟨k, hk, rfl, HPI, HWI, HLI, hsi⟩ := hrel
          have hwW : Went (g + 1) g W1 wi := HWX.out.trans HWI.out
          by_cases hlk : k < n9
          · have hke : k < Y.code.length := by rw [← HN9.out]; exact hlk
            obtain ⟨b4, off4, av, rfl, hb4, hat4, hargs, hin4⟩ := HCO.out.op k hke
            obtain ⟨⟨hk1, hk23⟩, ha24⟩ := HKK.out _ (List.getElem_mem hke)
            have hou := opsU_succ hke
            obtain ⟨Z, hZ⟩ : ∃ Z, Z = Y.code[k] := ⟨_, rfl⟩
            rw [← hZ] at hat4 hargs hin4 hk1 hk23 ha24 hou
            obtain ⟨A10, c10, rfl, -, -⟩ := hargs.form
            obtain ⟨n10, hn10⟩ : ∃ n, n = Z.args.length := ⟨_, rfl⟩
            have hai : ∀ x ∈ Z.args, In64 x := fun x hx => by
              obtain ⟨y, hy, rfl⟩ := List.getElem_of_mem hx
              obtain ⟨_, _, _, _, _, h6⟩ := hargs.int y hy
              exact h6
            obtain ⟨kd, hkd⟩ := Int.eq_ofNat_of_zero_le (show 0 ≤ Z.kind by omega)
            rw [← hn10] at hat4 hargs
            obtain ⟨s0, s1, s2, s3, s4, s5, s6, s7, s8, s9, s10, s11⟩ := hat4.keep (HK.out wi hwW b4 hb4)
            have hkI := In64.nat (show k ≤ 140737488355328 by omega)
            obtain ⟨Y1, hY1⟩ : ∃ Y1 : World, Y1 = wi.alloc (.cells #[.int .i64 Z.kind, .int .i64 Z.a, .int .i64 Z.b, .int .i64 Z.c, .int .i64 Z.d, .int .i64 Z.e, .int .i64 Z.f, .int .i64 Z.k, .slice A10 n10 c10, .int .i64 Z.next, .int .i64 Z.els, .int .i64 Z.pl] 42) := ⟨_, rfl⟩
            have hy1 : Below wi.heap.size wi Y1 := by rw [hY1]; exact (Below.refl _ wi).alloc (Nat.le_refl _) _
            have hwy : Went (g + 1) g W1 Y1 := hwW.trans (Went.of hy1 (by omega))
            have hopT : opT k Z = lineT (opPts k (kname kd) Z ++ wayPts Z) := by unfold opT; rw [hkd, Int.toNat_natCast]
            have hlen := opT_len (k := k) (O := Z) (w := w) (S := fun _ => True) (z := .nilIface) ha24 hin4 hkI hai
            have hsz2 := ptsW_op (k := k) (nm := kname kd) (O := Z) (kname_len _) ha24
            have hcall := op_any (S := (· < w.heap.size)) (k : Int) hkI (HPI.out.keep hy1) (hargs.keep (w' := Y1) (fun b hb => HK.out Y1 hwy b hb) (fun _ h => h)) hin4 hai (fun w' hw' b hb => by
              rw [HK.out w' (hwy.trans hw') b hb, HK.out Y1 hwy b hb]) hkd (by omega) (by omega) (by omega)
              ((World.cell?_of_block (HK.out Y1 hwy _ hgn)).trans (HNM.out kd (by omega))) (by have := kname_len kd; omega) (by
                have h1 := HBND.out; have h2 := HLI.out; have h3 := HFP.out.1; have h4 := HSN.out; have h5 := HR.out.sum
                rw [List.length_append, List.length_append]; omega) (HT.out Y1 hwy)
            have HC := Lib.hid hcall
            have HKD := Lib.hid hkd
            have HY1E := Lib.hid hY1
            have HOU := Lib.hid hou
            have HLE := Lib.hid hlen
            have HOT := Lib.hid hopT
            have HWY : Hid (Went (g + 1) g X1 Y1) := Lib.hid (HWI.out.trans (Went.of hy1 (by omega)))
            have hb4s : b4 < wi.heap.size := by omega
            clear hat4 hargs hin4 hk1 hk23 ha24 hou hn10 hai hkI hY1 hy1 hwy hopT hlen hsz2 hcall hwW hZ hkd
            go_wp2_with fail
            rw [← HY1E.out]
            with_reducible refine HC.out.mono ?_
            rintro e w3 ⟨rfl, hp3, hw3⟩
            have HP3 := Lib.hid hp3
            have HW3 := Lib.hid (HWY.out.trans hw3)
            have hs3 : P + 1 ≤ w3.heap.size := by have := hw3.size; have := HX1S.out; have := HWY.out.size; omega
            clear hp3 hw3 HC
            go_wp2
            go_roundw
            case rel =>
              refine ⟨k + 1, by omega, by go_num, Lib.hid ?_, HW3, Lib.hid (by have := HLI.out; have := HLE.out; rw [HOU.out, List.length_append]; omega), hs3⟩
              rw [HOU.out, HOT.out, ← List.append_assoc]
              exact HP3.out
            case measure => simp [intOf]; omega
          · obtain rfl : k = n9 := by omega
            clear hwW
            go_wp2
            go_roundw
            case rel =>
              have e1 : showU m (i + 1) = showU m i ++ lineT (funcPts i Y) ++ opsU Y.code k := by rw [HSU.out, fnT, ← HN9.out, List.append_assoc]
              refine ⟨i + 1, by omega, by go_num, Lib.hid (by rw [e1]; exact HPI.out), Lib.hid (HWX.out.trans HWI.out), Lib.hid ?_, by omega⟩
              have h1 := HL.out
              have h2 := HLI.out
              have h3 := HFP.out.1
              have h4 := HSN.out.1
              rw [e1, List.length_append, List.length_append, h4]
              omega
            case measure => simp [intOf]; omega
      · obtain rfl : i = n7 := by omega
        obtain ⟨sv, hg0, hown, -, -⟩ := HP.out
        have hne : showU m i ≠ [] := by
          obtain ⟨j, rfl⟩ : ∃ j, i = j + 1 := ⟨i - 1, by have := HR.out.few.2; have := HN7.out; omega⟩
          rw [showU_succ (by have := HN7.out; omega)]
          unfold fnT lineT
          simp
        obtain ⟨us, hus⟩ : ∃ us, us = showU m i := ⟨_, rfl⟩
        rw [← hus] at hown hne
        have HUS : Hid (showR m = us) := Lib.hid (by rw [HS.out, hus])
        obtain ⟨G, cap, rfl⟩ : ∃ G cap, sv = .slice (some ⟨G, 0, none⟩) us.length cap := by
          rcases hown.2 with ⟨rfl, h0⟩ | ⟨g', cap, cur, rfl, hb, _⟩
          · exact absurd (List.eq_nil_of_length_eq_zero h0) hne
          · exact ⟨g', cap, rfl⟩
        have hcv : (convert 61 9 (.slice (some ⟨G, 0, none⟩) us.length cap)).run Tryd.prog wo = .ok (.string (bs us)) wo :=
          run_convert_bytes_back wo 61 9 5 ⟨G, 0, none⟩ cap us Tryd.underlying61 Tryd.underlying5 Tryd.underlying9 (fun y hy => by
            have := hown.cells (g := G) rfl y (.int .u8 (us[y].toNat : Nat)) (by unfold Lib.byteCells; rw [List.getElem?_map, List.getElem?_eq_getElem hy]; rfl)
            exact this)
        have k9 : wo.cell? ⟨g, 0, none⟩ = some (.slice (some ⟨G, 0, none⟩) us.length cap) := by rw [cell_of_row wo g 0 _ _ (0, 0) hg0]; rfl
        obtain ⟨nu, hnu⟩ : ∃ n, n = us.length := ⟨_, rfl⟩
        rw [← hnu] at hcv k9
        have HEND : Hid (Below w.heap.size w wo) := Lib.hid (HWB.out.trans ((HW.out.bel (by omega)).mono (by omega)))
        clear hown hg0 hne hus hnu HFL
        go_wp2
        exact bodyPost_ret (v := .tuple #[.string (bs us), .int .i64 0]) (by simp [results, Tryd.results18, go_sem]) rfl ⟨by rw [HUS.out], HEND.out⟩

end Go.Proofs.YtgohnlcgidmlfaaDoor
