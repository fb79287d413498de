/- The walk of FifoOrder. -/
import Derived.Test.YtadmacplpmahaaaIae
import Derived.Test.YtadmacplpmahaaaIaf
set_option linter.unusedVariables false
set_option linter.unusedSimpArgs false
namespace Go.Proofs.Ytadmacplpmahaaa
open Go.RowKit

set_option maxRecDepth 100000 in
set_option maxHeartbeats 4000000 in
theorem order_walk (w : World) (p : Int) (hp : In64 p) (zs : List Int) (v : Value) (hv : Scr KN w (· < w.heap.size) zs v) :
    Calls Try.prog 4 #[.int .i64 p, v] w fun e w' => e = .returned (.bool true) ∧ Below w.heap.size w w' := by
  obtain ⟨A, cz, rfl, hzc, hz63⟩ := hv.form
  have HAL := Lib.hid (alive_any w)
  have HV := Lib.hid hv
  have HIN := Lib.hid hp
  obtain ⟨n, hn⟩ : ∃ n, n = zs.length := ⟨_, rfl⟩
  rw [← hn] at hzc ⊢
  have HN := Lib.hid hn
  clear hv hn hp
  by_cases hbig : 300 < n
  · go_enter Try.func4, Try.ntmps4
    go_wp2_with fail
    refine HAL.out.mono ?_
    rintro e w1 ⟨rfl, hb1⟩
    have HB1 := Lib.hid hb1
    clear hb1
    go_wp2
    go_ret
    exact ⟨rfl, HB1.out⟩
  · have hsm : n ≤ 300 := by omega
    clear hbig
    go_enter Try.func4, Try.ntmps4
    go_wp2_with fail
    refine HAL.out.mono ?_
    rintro e w1 ⟨rfl, hb1⟩
    have HB1 := Lib.hid hb1
    have HNEW := Lib.hid (newQ_any w1 p HIN.out)
    clear hb1 HAL
    go_wp2_with fail
    refine HNEW.out.mono ?_
    rintro e w2 ⟨h, c, rfl, X0, hb2⟩
    obtain ⟨cap, hcap⟩ : ∃ cap, cap = capM p := ⟨_, rfl⟩
    rw [← hcap] at X0
    have HX0 := Lib.hid X0
    have HB2 := Lib.hid (HB1.out.trans (hb2.mono HB1.out.size))
    obtain ⟨base, hbase⟩ : ∃ base, base = w1.heap.size := ⟨_, rfl⟩
    rw [← hbase] at HX0
    have HBASE := Lib.hid (show base ≤ w2.heap.size ∧ w.heap.size ≤ base from ⟨by rw [hbase]; exact hb2.size, by rw [hbase]; exact HB1.out.size⟩)
    clear X0 hb2 HNEW hbase HB1 hcap
    go_wp2_with fail
    have HBL := Lib.hid (((Below.refl w2.heap.size w2).alloc (Nat.le_refl _) (.cells #[] 3)).alloc (by simp) (.cells #[] 3))
    have HI0 := Lib.hid ((OwnN.lit w2 base HBASE.out.1).alloc (.cells #[] 3))
    have HO0 := Lib.hid (OwnN.lit (w2.alloc (.cells #[] 3)) base (by have := HBASE.out.1; simp; omega))
    have HS0 : Hid (base ≤ ((w2.alloc (.cells #[] 3)).alloc (.cells #[] 3)).heap.size) := Lib.hid (by have := HBASE.out.1; simp; omega)
    have HSZ : (w2.alloc (.cells #[] 3)).heap.size = w2.heap.size + 1 := by simp
    have HNE : Hid (∀ b, (Value.slice (some ⟨w2.heap.size, 0, none⟩) 0 0).ownBlock = some b → (Value.slice (some ⟨(w2.alloc (.cells #[] 3)).heap.size, 0, none⟩) 0 0).ownBlock ≠ some b) := Lib.hid (fun b hb hb' => by
      simp only [Value.ownBlock, Option.some.injEq] at hb hb'
      omega)
    rw [HSZ] at HO0 HNE
    clear HSZ
    go_loopw [6, 7, 8] (fun vi vo i wr => ∃ (j : Nat) (O W : List Int), j ≤ n ∧ i = .int .i64 (j : Nat) ∧ O.length + W.length ≤ j ∧ Hid (OwnN wr base vi (O ++ W)) ∧ Hid (OwnN wr base vo O) ∧ Hid (∀ b, vi.ownBlock = some b → vo.ownBlock ≠ some b) ∧ Hid (QAt wr base h c cap W) ∧ Hid (base ≤ wr.heap.size) ∧ Hid (Below w.heap.size w wr)) (fun _ _ i _ => n - (intOf i).toNat)
    case atStart => exact ⟨0, [], [], Nat.zero_le _, rfl, Nat.le_refl _, HI0, HO0, HNE, Lib.hid (HX0.out.below HBL.out), HS0, Lib.hid (HB2.out.trans (HBL.out.mono HB2.out.size))⟩
    case round =>
      obtain ⟨wo, rfl⟩ : ∃ wo : World, wo = wr := ⟨_, rfl⟩
      obtain ⟨j, O, W, hj, rfl, hlen, HI, HO, HNE, HQ, HBS, HB⟩ := hrel
      by_cases hlt : j < n
      · have hjl : j < zs.length := by rw [← HN.out]; exact hlt
        obtain ⟨gz, off, rfl, hgz, k0, hin⟩ := HV.out.num j hjl
        have hc := (HB.out.cell (p := ⟨gz, off + j, none⟩) hgz).trans k0
        obtain ⟨x, hx⟩ : ∃ x, x = zs[j] := ⟨_, rfl⟩
        rw [← hx] at hc hin
        have HLB := Lib.hid hlen
        clear k0 hx hjl hlen
        obtain ⟨ol, hol⟩ : ∃ ol, ol = O.length := ⟨_, rfl⟩
        obtain ⟨wl, hwl⟩ : ∃ wl, wl = W.length := ⟨_, rfl⟩
        have HOL := Lib.hid hol
        have HWL := Lib.hid hwl
        have hlow : ol + wl ≤ j := by have := HLB.out; omega
        have HLA : Hid (O.length ≤ 1000000 ∧ (O ++ W).length ≤ 1000000) := Lib.hid (by simp; omega)
        have HAI := Lib.hid (HI.out.apart HQ.out)
        have HAO := Lib.hid (HO.out.apart HQ.out)
        clear hol hwl
        have hpar : (bits BinOp.and IntKind.i64 x 1 == 0) = true ∨ (bits BinOp.and IntKind.i64 x 1 == 0) = false := by cases (bits BinOp.and IntKind.i64 x 1 == 0) <;> simp
        rcases hpar with hpar | hpar
        · have HP := put_any HQ.out x
          unfold PutQ putM at HP
          by_cases hw : W.length < cap
          · rw [if_pos hw] at HP
            have HP := Lib.hid HP
            clear hw
            go_wp2_with fail
            refine HP.out.mono ?_
            rintro e w3 ⟨rfl, X3, C3⟩
            try dsimp only at X3
            have HQ3 := Lib.hid X3
            have HI3 := Lib.hid (HI.out.chg C3 (fun b hb e => HAI.out.2 (by rw [hb]; exact e.symm)))
            have HO3 := Lib.hid (HO.out.chg C3 (fun b hb e => HAO.out.2 (by rw [hb]; exact e.symm)))
            have HBS3 : Hid (base ≤ w3.heap.size) := Lib.hid (Nat.le_trans HBS.out C3.size)
            have HB3 := Lib.hid (HB.out.trans (C3.bel.mono HBASE.out.2))
            have hc3 := (C3.bel.cell (p := ⟨gz, off + j, none⟩) (by show gz < base; have := HBASE.out.2; omega)).trans hc
            clear X3 C3 HI HO HQ HBS HB hc
            have HAI3 := Lib.hid (HI3.out.apart HQ3.out)
            have HAO3 := Lib.hid (HO3.out.apart HQ3.out)
            clear HP
            go_wp2_with (first | (at_builtin; go_loud (refine wpList_app rfl _ _ rfl base _ (O ++ W) rfl (w := w3) x rfl HI3.out HLA.out.2 1 rfl HBS3.out ?_; go_loud (intro v4 w4 o4 c4 n4))))
            have HI1 : Hid (OwnN w4 base v4 (O ++ (W ++ [x]))) := Lib.hid (by rw [← List.append_assoc]; exact o4)
            have HO1 := Lib.hid (HO3.out.chg c4 (fun b hb e => HNE.out b e hb))
            have HNE1 : Hid (∀ b, v4.ownBlock = some b → u7.ownBlock ≠ some b) := Lib.hid (fun b hb hb' => (n4 b hb).elim (fun h => HNE.out b h hb') (fun h => by have := (HO3.out.lt hb').2; omega))
            have HQ1 := Lib.hid (HQ3.out.chg c4 HAI3.out.1 HAI3.out.2)
            have HBS1 : Hid (base ≤ w4.heap.size) := Lib.hid (Nat.le_trans HBS3.out c4.size)
            have HB1 := Lib.hid (HB3.out.trans (c4.bel.mono HBASE.out.2))
            clear o4 c4 n4 HI3 HO3 HQ3 HBS3 HB3 HAI3 HAO3 hc3 HNE
            have HL1 := Lib.hid (len_any HQ1.out)
            obtain ⟨il2, ol2, wl2, e1, e2, e3⟩ : ∃ il2 ol2 wl2 : Nat, il2 = ol + wl + 1 ∧ ol2 = ol ∧ wl2 = wl + 1 := ⟨_, _, _, rfl, rfl, rfl⟩
            have hee : (il2 : Int) - (ol2 : Int) = (wl2 : Int) := by omega
            have hb2 : il2 ≤ 301 := by omega
            have hb3 : ol2 ≤ 301 := by omega
            have hb4 : wl2 ≤ 301 := by omega
            have HLI : Hid ((O ++ (W ++ [x])).length = il2) := Lib.hid (by rw [e1]; have h1 := HOL.out; have h2 := HWL.out; (try simp only [List.length_append, List.length_cons, List.length_nil] at h2 ⊢); omega)
            have HLO : Hid ((O).length = ol2) := Lib.hid (by rw [e2]; have h1 := HOL.out; have h2 := HWL.out; (try simp only [List.length_append, List.length_cons, List.length_nil] at h2 ⊢); omega)
            have HLW : Hid (((W ++ [x])).length = wl2) := Lib.hid (by rw [e3]; have h1 := HOL.out; have h2 := HWL.out; (try simp only [List.length_append, List.length_cons, List.length_nil] at h2 ⊢); omega)
            rw [HLW.out] at HL1
            refine HL1.out.mono ?_
            rintro e w7 ⟨rfl, rfl⟩
            obtain ⟨Ai, ci, rfl⟩ := HI1.out.form_n HLI.out
            obtain ⟨Ao, co, rfl⟩ := HO1.out.form_n HLO.out
            have HEE := Lib.hid (show ol2 + wl2 ≤ j + 1 by omega)
            clear e1 e2 e3
            go_wp2_with fail
            refine HL1.out.mono ?_
            rintro e w8 ⟨rfl, rfl⟩
            go_wp2_with fail
            go_roundw
            case rel => exact ⟨j + 1, O, (W ++ [x]), by omega, by go_num, by rw [HLO.out, HLW.out]; exact HEE.out, HI1, HO1, HNE1, HQ1, HBS1, HB1⟩
            case measure => simp [intOf]; omega
          · rw [if_neg hw] at HP
            have HP := Lib.hid HP
            clear hw
            go_wp2_with fail
            refine HP.out.mono ?_
            rintro e w3 ⟨rfl, X3, C3⟩
            try dsimp only at X3
            have HQ3 := Lib.hid X3
            have HI3 := Lib.hid (HI.out.chg C3 (fun b hb e => HAI.out.2 (by rw [hb]; exact e.symm)))
            have HO3 := Lib.hid (HO.out.chg C3 (fun b hb e => HAO.out.2 (by rw [hb]; exact e.symm)))
            have HBS3 : Hid (base ≤ w3.heap.size) := Lib.hid (Nat.le_trans HBS.out C3.size)
            have HB3 := Lib.hid (HB.out.trans (C3.bel.mono HBASE.out.2))
            have hc3 := (C3.bel.cell (p := ⟨gz, off + j, none⟩) (by show gz < base; have := HBASE.out.2; omega)).trans hc
            clear X3 C3 HI HO HQ HBS HB hc
            clear HP
            go_wp2_with fail
            obtain ⟨HI1, HO1, HQ1, HBS1, HB1, HNE1⟩ := And.intro HI3 (And.intro HO3 (And.intro HQ3 (And.intro HBS3 (And.intro HB3 HNE))))
            have HL1 := Lib.hid (len_any HQ1.out)
            obtain ⟨il2, ol2, wl2, e1, e2, e3⟩ : ∃ il2 ol2 wl2 : Nat, il2 = ol + wl ∧ ol2 = ol ∧ wl2 = wl := ⟨_, _, _, rfl, rfl, rfl⟩
            have hee : (il2 : Int) - (ol2 : Int) = (wl2 : Int) := by omega
            have hb2 : il2 ≤ 301 := by omega
            have hb3 : ol2 ≤ 301 := by omega
            have hb4 : wl2 ≤ 301 := by omega
            have HLI : Hid ((O ++ W).length = il2) := Lib.hid (by rw [e1]; have h1 := HOL.out; have h2 := HWL.out; (try simp only [List.length_append, List.length_cons, List.length_nil] at h2 ⊢); omega)
            have HLO : Hid ((O).length = ol2) := Lib.hid (by rw [e2]; have h1 := HOL.out; have h2 := HWL.out; (try simp only [List.length_append, List.length_cons, List.length_nil] at h2 ⊢); omega)
            have HLW : Hid ((W).length = wl2) := Lib.hid (by rw [e3]; have h1 := HOL.out; have h2 := HWL.out; (try simp only [List.length_append, List.length_cons, List.length_nil] at h2 ⊢); omega)
            rw [HLW.out] at HL1
            refine HL1.out.mono ?_
            rintro e w7 ⟨rfl, rfl⟩
            obtain ⟨Ai, ci, rfl⟩ := HI1.out.form_n HLI.out
            obtain ⟨Ao, co, rfl⟩ := HO1.out.form_n HLO.out
            have HEE := Lib.hid (show ol2 + wl2 ≤ j + 1 by omega)
            clear e1 e2 e3
            go_wp2_with fail
            refine HL1.out.mono ?_
            rintro e w8 ⟨rfl, rfl⟩
            go_wp2_with fail
            go_roundw
            case rel => exact ⟨j + 1, O, W, by omega, by go_num, by rw [HLO.out, HLW.out]; exact HEE.out, HI1, HO1, HNE1, HQ1, HBS1, HB1⟩
            case measure => simp [intOf]; omega
        · have HG := get_any HQ.out
          unfold GetQ at HG
          cases W with
          | nil =>
            have HG := Lib.hid HG
            go_wp2_with fail
            refine HG.out.mono ?_
            rw [show getM ([] : List Int) = ([], 0, false) from rfl]
            rintro e w3 ⟨rfl, X3, C3⟩
            try dsimp only at X3
            have HQ3 := Lib.hid X3
            have HI3 := Lib.hid (HI.out.chg C3 (fun b hb e => HAI.out.2 (by rw [hb]; exact e.symm)))
            have HO3 := Lib.hid (HO.out.chg C3 (fun b hb e => HAO.out.2 (by rw [hb]; exact e.symm)))
            have HBS3 : Hid (base ≤ w3.heap.size) := Lib.hid (Nat.le_trans HBS.out C3.size)
            have HB3 := Lib.hid (HB.out.trans (C3.bel.mono HBASE.out.2))
            have hc3 := (C3.bel.cell (p := ⟨gz, off + j, none⟩) (by show gz < base; have := HBASE.out.2; omega)).trans hc
            clear X3 C3 HI HO HQ HBS HB hc
            clear HG
            go_wp2_with fail
            obtain ⟨HI1, HO1, HQ1, HBS1, HB1, HNE1⟩ := And.intro HI3 (And.intro HO3 (And.intro HQ3 (And.intro HBS3 (And.intro HB3 HNE))))
            have HL1 := Lib.hid (len_any HQ1.out)
            obtain ⟨il2, ol2, wl2, e1, e2, e3⟩ : ∃ il2 ol2 wl2 : Nat, il2 = ol + wl ∧ ol2 = ol ∧ wl2 = wl := ⟨_, _, _, rfl, rfl, rfl⟩
            have hee : (il2 : Int) - (ol2 : Int) = (wl2 : Int) := by omega
            have hb2 : il2 ≤ 301 := by omega
            have hb3 : ol2 ≤ 301 := by omega
            have hb4 : wl2 ≤ 301 := by omega
            have HLI : Hid ((O ++ []).length = il2) := Lib.hid (by rw [e1]; have h1 := HOL.out; have h2 := HWL.out; (try simp only [List.length_append, List.length_cons, List.length_nil] at h2 ⊢); omega)
            have HLO : Hid ((O).length = ol2) := Lib.hid (by rw [e2]; have h1 := HOL.out; have h2 := HWL.out; (try simp only [List.length_append, List.length_cons, List.length_nil] at h2 ⊢); omega)
            have HLW : Hid (([] : List Int).length = wl2) := Lib.hid (by rw [e3]; have h1 := HOL.out; have h2 := HWL.out; (try simp only [List.length_append, List.length_cons, List.length_nil] at h2 ⊢); omega)
            rw [HLW.out] at HL1
            refine HL1.out.mono ?_
            rintro e w7 ⟨rfl, rfl⟩
            obtain ⟨Ai, ci, rfl⟩ := HI1.out.form_n HLI.out
            obtain ⟨Ao, co, rfl⟩ := HO1.out.form_n HLO.out
            have HEE := Lib.hid (show ol2 + wl2 ≤ j + 1 by omega)
            clear e1 e2 e3
            go_wp2_with fail
            refine HL1.out.mono ?_
            rintro e w8 ⟨rfl, rfl⟩
            go_wp2_with fail
            go_roundw
            case rel => exact ⟨j + 1, O, [], by omega, by go_num, by rw [HLO.out, HLW.out]; exact HEE.out, HI1, HO1, HNE1, HQ1, HBS1, HB1⟩
            case measure => simp [intOf]; omega
          | cons y W =>
            have HG := Lib.hid HG
            have hw1 : 1 ≤ wl := by have := HWL.out; simp at this; omega
            go_wp2_with fail
            refine HG.out.mono ?_
            rw [show getM (y :: W) = (W, y, true) from rfl]
            rintro e w3 ⟨rfl, X3, C3⟩
            try dsimp only at X3
            have HQ3 := Lib.hid X3
            have HI3 := Lib.hid (HI.out.chg C3 (fun b hb e => HAI.out.2 (by rw [hb]; exact e.symm)))
            have HO3 := Lib.hid (HO.out.chg C3 (fun b hb e => HAO.out.2 (by rw [hb]; exact e.symm)))
            have HBS3 : Hid (base ≤ w3.heap.size) := Lib.hid (Nat.le_trans HBS.out C3.size)
            have HB3 := Lib.hid (HB.out.trans (C3.bel.mono HBASE.out.2))
            have hc3 := (C3.bel.cell (p := ⟨gz, off + j, none⟩) (by show gz < base; have := HBASE.out.2; omega)).trans hc
            clear X3 C3 HI HO HQ HBS HB hc
            have HAI3 := Lib.hid (HI3.out.apart HQ3.out)
            have HAO3 := Lib.hid (HO3.out.apart HQ3.out)
            clear HG
            go_wp2_with (first | (at_builtin; go_loud (refine wpList_app rfl _ _ rfl base _ O rfl (w := w3) y rfl HO3.out HLA.out.1 1 rfl HBS3.out ?_; go_loud (intro v4 w4 o4 c4 n4))))
            have HI1 : Hid (OwnN w4 base u6 ((O ++ [y]) ++ W)) := Lib.hid (by rw [List.append_assoc]; exact HI3.out.chg c4 (fun b hb e => HNE.out b hb e))
            have HO1 : Hid (OwnN w4 base v4 (O ++ [y])) := Lib.hid o4
            have HNE1 : Hid (∀ b, u6.ownBlock = some b → v4.ownBlock ≠ some b) := Lib.hid (fun b hb hb' => (n4 b hb').elim (fun h => HNE.out b hb h) (fun h => by have := (HI3.out.lt hb).2; omega))
            have HQ1 := Lib.hid (HQ3.out.chg c4 HAO3.out.1 HAO3.out.2)
            have HBS1 : Hid (base ≤ w4.heap.size) := Lib.hid (Nat.le_trans HBS3.out c4.size)
            have HB1 := Lib.hid (HB3.out.trans (c4.bel.mono HBASE.out.2))
            clear o4 c4 n4 HI3 HO3 HQ3 HBS3 HB3 HAI3 HAO3 hc3 HNE
            have HL1 := Lib.hid (len_any HQ1.out)
            obtain ⟨il2, ol2, wl2, e1, e2, e3⟩ : ∃ il2 ol2 wl2 : Nat, il2 = ol + wl ∧ ol2 = ol + 1 ∧ wl2 = wl - 1 := ⟨_, _, _, rfl, rfl, rfl⟩
            have hee : (il2 : Int) - (ol2 : Int) = (wl2 : Int) := by omega
            have hb2 : il2 ≤ 301 := by omega
            have hb3 : ol2 ≤ 301 := by omega
            have hb4 : wl2 ≤ 301 := by omega
            have HLI : Hid (((O ++ [y]) ++ W).length = il2) := Lib.hid (by rw [e1]; have h1 := HOL.out; have h2 := HWL.out; (try simp only [List.length_append, List.length_cons, List.length_nil] at h2 ⊢); omega)
            have HLO : Hid (((O ++ [y])).length = ol2) := Lib.hid (by rw [e2]; have h1 := HOL.out; have h2 := HWL.out; (try simp only [List.length_append, List.length_cons, List.length_nil] at h2 ⊢); omega)
            have HLW : Hid ((W).length = wl2) := Lib.hid (by rw [e3]; have h1 := HOL.out; have h2 := HWL.out; (try simp only [List.length_append, List.length_cons, List.length_nil] at h2 ⊢); omega)
            rw [HLW.out] at HL1
            refine HL1.out.mono ?_
            rintro e w7 ⟨rfl, rfl⟩
            obtain ⟨Ai, ci, rfl⟩ := HI1.out.form_n HLI.out
            obtain ⟨Ao, co, rfl⟩ := HO1.out.form_n HLO.out
            have HEE := Lib.hid (show ol2 + wl2 ≤ j + 1 by omega)
            clear e1 e2 e3
            go_wp2_with fail
            refine HL1.out.mono ?_
            rintro e w8 ⟨rfl, rfl⟩
            go_wp2_with fail
            go_roundw
            case rel => exact ⟨j + 1, (O ++ [y]), W, by omega, by go_num, by rw [HLO.out, HLW.out]; exact HEE.out, HI1, HO1, HNE1, HQ1, HBS1, HB1⟩
            case measure => simp [intOf]; omega
      · obtain rfl : j = n := by omega
        obtain ⟨I, hI⟩ : ∃ I, I = O ++ W := ⟨_, rfl⟩
        have HLB := Lib.hid hlen
        have HIL : Hid (I.length ≤ 1000) := Lib.hid (by rw [hI]; simp; omega)
        have HIE := Lib.hid hI
        rw [← hI] at HI
        clear hI hlen
        obtain ⟨il, hil⟩ : ∃ il, il = I.length := ⟨_, rfl⟩
        have HILE := Lib.hid hil
        obtain ⟨Ai, ci, rfl⟩ := HI.out.form_n hil.symm
        have hil2 : il ≤ 1000 := by have := HIL.out; omega
        clear hil
        go_wp2_with fail
        go_loopw [7] (fun vo wr => ∃ (O W : List Int), Hid (I = O ++ W) ∧ Hid (OwnN wr base (.slice Ai il ci) I) ∧ Hid (OwnN wr base vo O) ∧ Hid (∀ b, (Value.slice Ai il ci).ownBlock = some b → vo.ownBlock ≠ some b) ∧ Hid (QAt wr base h c cap W) ∧ Hid (base ≤ wr.heap.size) ∧ Hid (Below w.heap.size w wr)) (fun vo _ => 1001 - sliceLen vo)
        case atStart => exact ⟨O, W, HIE, HI, HO, HNE, HQ, HBS, HB⟩
        case round =>
          clear HI HO HNE HQ HBS HB HIE HLB
          clear O W
          obtain ⟨wo2, rfl⟩ : ∃ wo : World, wo = wr := ⟨_, rfl⟩
          obtain ⟨O, W, HIE, HI, HO, HNE, HQ, HBS, HB⟩ := hrel
          have HL1 := Lib.hid (len_any HQ.out)
          have HAI := Lib.hid (HI.out.apart HQ.out)
          have HAO := Lib.hid (HO.out.apart HQ.out)
          obtain ⟨ol, hol⟩ : ∃ ol, ol = O.length := ⟨_, rfl⟩
          have hoi : ol ≤ il := by rw [HILE.out, HIE.out, hol]; simp
          have HOL := Lib.hid hol
          obtain ⟨Ao, co, rfl⟩ := HO.out.form_n hol.symm
          clear hol
          cases W with
          | nil =>
            rw [List.length_nil] at HL1
            go_wp2_with fail
            refine HL1.out.mono ?_
            rintro e w7 ⟨rfl, rfl⟩
            have HS := Lib.hid (same_any HI.out.lie (by rw [HIE.out, List.append_nil]; exact HO.out.lie))
            go_wp2_with fail
            refine HS.out.mono ?_
            rintro e w9 ⟨rfl, m', hm'⟩
            have HB10 := HB.out.trans (Chg.drawn none w.heap.size _ m').bel
            rw [← hm'] at HB10
            have HB10 := Lib.hid HB10
            clear hm' HS HB
            go_wp2
            go_ret
            exact ⟨rfl, HB10.out⟩
          | cons y W =>
            have hwl : W.length ≤ 4 := by have := HQ.out.fit; have := HQ.out.hi; simp at *; omega
            have HG := get_any HQ.out
            unfold GetQ at HG
            rw [show getM (y :: W) = (W, y, true) from rfl] at HG
            have HG := Lib.hid HG
            rw [List.length_cons] at HL1
            go_wp2_with fail
            refine HL1.out.mono ?_
            rintro e w7 ⟨rfl, rfl⟩
            go_wp2_with fail
            refine HG.out.mono ?_
            rintro e w3 ⟨rfl, X3, C3⟩
            have HQ3 := Lib.hid X3
            have HI3 := Lib.hid (HI.out.chg C3 (fun b hb e => HAI.out.2 (by rw [hb]; exact e.symm)))
            have HO3 := Lib.hid (HO.out.chg C3 (fun b hb e => HAO.out.2 (by rw [hb]; exact e.symm)))
            have HBS3 : Hid (base ≤ w3.heap.size) := Lib.hid (Nat.le_trans HBS.out C3.size)
            have HB3 := Lib.hid (HB.out.trans (C3.bel.mono HBASE.out.2))
            have HAO3 := Lib.hid (HO3.out.apart HQ3.out)
            have HLA : Hid (O.length ≤ 1000000) := Lib.hid (by have := HOL.out; omega)
            clear X3 C3 HI HO HQ HBS HB HG HL1
            go_wp2_with (first | (at_builtin; go_loud (refine wpList_app rfl _ _ rfl base _ O rfl (w := w3) y rfl HO3.out HLA.out 1 rfl HBS3.out ?_; go_loud (intro v4 w4 o4 c4 n4))))
            have hl4 : (O ++ [y]).length = ol + 1 := by simp; exact HOL.out.symm
            have HN4 : Hid (∀ b, (Value.slice Ai il ci).ownBlock = some b → v4.ownBlock ≠ some b) := Lib.hid (fun b hb hb' => (n4 b hb').elim (fun h => HNE.out b hb h) (fun h => by have := (HI3.out.lt hb).2; omega))
            obtain ⟨A4, c5, rfl⟩ := o4.form_n hl4
            go_roundw
            case rel => exact ⟨O ++ [y], W, Lib.hid (by rw [HIE.out]; simp), Lib.hid (HI3.out.chg c4 (fun b hb e => HNE.out b hb e)), Lib.hid o4, HN4, Lib.hid (HQ3.out.chg c4 HAO3.out.1 HAO3.out.2), Lib.hid (Nat.le_trans HBS3.out c4.size), Lib.hid (HB3.out.trans (c4.bel.mono HBASE.out.2))⟩
            case measure => simp [sliceLen]; omega

end Go.Proofs.Ytadmacplpmahaaa
