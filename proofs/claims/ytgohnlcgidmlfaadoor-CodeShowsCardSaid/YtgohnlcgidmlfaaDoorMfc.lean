/- What a law's walk knows of the code that it was handed, at any later world. -/
import Derived.Test.YtgohnlcgidmlfaaDoorMfb
import Derived.Test.YtgohnlcgidmlfaaDoorMeu
import Derived.Test.YtgohnlcgidmlfaaDoorMev
import Derived.Deep.RegionHeld3
set_option linter.unusedVariables false
set_option linter.unusedSimpArgs false
set_option maxRecDepth 100000
namespace Go.Proofs.YtgohnlcgidmlfaaDoor
open Go.RowKit

/-- the code lies as it was handed over, its own block besides -/
structure LawW (w0 : World) (m : Mo) (v : Vm) (w : World) : Prop where
  mo0 : IsMo w0 (· < w0.heap.size) m v
  nm0 : NmW w0
  tb0 : TbW w0
  below : Below w0.heap.size w0 w
  blk : MoBlk w w0.heap.size v
  size : w0.heap.size + 1 ≤ w.heap.size
section
variable {w0 w w' : World} {m : Mo} {v : Vm}
theorem LawW.mo (h : LawW w0 m v w) : IsMo w (· < w.heap.size) m v := h.mo0.grow h.below
theorem LawW.nm (h : LawW w0 m v w) : NmW w := nmW_below h.nm0 (nmW_lt h.nm0) h.below
theorem LawW.tb (h : LawW w0 m v w) : TbW w := by
  have ht := h.tb0
  unfold TbW at ht ⊢
  exact fun w1 hb1 => ht w1 (h.below.trans (hb1.mono h.below.size))
theorem LawW.start (h : IsMo w0 (· < w0.heap.size) m v) (hn : NmW w0) (ht : TbW w0) : LawW w0 m v (w0.alloc (.cells #[v.g, v.s, v.c, v.l, v.i, v.o, v.h, v.f, v.t] 27)) :=
  ⟨h, hn, ht, (Below.refl _ w0).alloc (Nat.le_refl _) _, MoBlk.grow, by rw [asz]; omega⟩
theorem LawW.to (h : LawW w0 m v w) (hb : Below (w0.heap.size + 1) w w') : LawW w0 m v w' :=
  ⟨h.mo0, h.nm0, h.tb0, h.below.trans (hb.mono (by omega)), h.blk.below hb (by omega), Nat.le_trans h.size hb.size⟩
theorem LawW.step (h : LawW w0 m v w) (hb : Below w.heap.size w w') : LawW w0 m v w' := h.to (hb.mono h.size)
theorem LawW.drew (h : LawW w0 m v w) : LawW w0 m v w.drew := h.step (Below.refl _ _).drew
theorem LawW.set (h : LawW w0 m v w) {p : Addr} (hp : w0.heap.size + 1 ≤ p.block) (u : Value) : LawW w0 m v (w.setCell p u) := h.to ((Below.refl _ w).setCell hp u)
theorem LawW.alloc (h : LawW w0 m v w) (o : Obj) : LawW w0 m v (w.alloc o) := h.step ((Below.refl _ w).alloc (Nat.le_refl _) o)
theorem LawW.lt (h : LawW w0 m v w) : w0.heap.size < w.heap.size := by have := h.size; omega
theorem NewMo.is_ {e : Ending} (h : NewMo w m e w') : ∃ v : Vm, e = .returned (.agg v.arr) ∧ IsMo w' (fun b => w.heap.size ≤ b ∧ b < w'.heap.size) m v ∧ Below w.heap.size w w' := by
  obtain ⟨v, lo, hi, H, T, he, ho, hH, hb⟩ := h
  exact ⟨v, he, ho.is_ hH, hb⟩
end

/-- text of bytes 10, up to a place -/
theorem nls_take {us : List UInt8} {i : Nat} (h : i < us.length) : nls (us.take (i + 1)) = nls (us.take i) + (if us[i] = 10 then 1 else 0) := by
  rw [List.take_succ_eq_append_getElem h, nls_app]
  congr 1
  unfold nls
  simp [List.countP_cons]

theorem opsU_bound {w : World} {S : Nat → Prop} {xs : List Opx} {u : Value} (hl : Lies KO w S xs u) (ha : ∀ O ∈ xs, O.args.length ≤ 1024) : ∀ n, n ≤ xs.length → (opsU xs n).length ≤ 23000 * n
  | 0, _ => by simp [opsU]
  | n + 1, h => by
    obtain ⟨A, c, rfl, -, hM⟩ := hl.form
    obtain ⟨_, _, _, _, _, _, hargs, hin⟩ := hl.op n (by omega)
    rw [opsU_succ (by omega), List.length_append]
    have h1 := opsU_bound hl ha n (by omega)
    obtain ⟨A', c', rfl, -, -⟩ := hargs.form
    have h2 := opT_len (w := w) (S := S) (z := .nilIface) (k := n) (ha _ (List.getElem_mem (by omega : n < xs.length))) hin (In64.nat (by omega)) (fun x hx => by
      obtain ⟨y, hy, rfl⟩ := List.getElem_of_mem hx
      obtain ⟨_, _, _, _, _, h6⟩ := hargs.int y hy
      exact h6)
    omega
theorem showU_bound {w : World} {S : Nat → Prop} {m : Mo} {v : Vm} (h : IsMo w S m v) (hr : rightM m = true) : (showU m m.funcs.length).length ≤ 100000000 := by
  have hp := rightP hr
  obtain ⟨A, c, e, -, hM⟩ := h.f.form
  have hl := h.f
  rw [e] at hl
  have key : ∀ n, n ≤ m.funcs.length → (showU m n).length ≤ 100 * n + 23000 * sumN (m.funcs.take n) := by
    intro n
    induction n with
    | zero => intro _; simp [showU]
    | succ n ih =>
      intro hn
      obtain ⟨_, _, _, _, _, _, hcode, hin⟩ := hl.fn n (by omega)
      rw [showU_succ (by omega), (sumN_take (fs := m.funcs) (i := n) (by omega)).1, List.length_append]
      have h1 := ih (by omega)
      have h2 := (funcPts_len (i := n) (In64.nat (by omega)) hin).1
      have h3 := opsU_bound hcode (fun O hO => (hp.kinds _ (List.getElem_mem (by omega : n < m.funcs.length)) O hO).2) _ (Nat.le_refl _)
      unfold fnT
      rw [List.length_append]
      omega
  have h1 := key _ (Nat.le_refl _)
  rw [List.take_length] at h1
  have h2 := hp.sum
  have h3 := hp.few.1
  omega

set_option maxHeartbeats 4000000 in
theorem codeLines_walk (w : World) {m : Mo} {v : Vm} (h : IsMo w (· < w.heap.size) m v) (hnm : NmW w) (htb : TbW w) :
    Calls Tryd.prog 7 #[.agg v.arr] w fun e w' => e = .returned (.bool true) ∧ Below w.heap.size w w' := by
  obtain ⟨X, hX⟩ : ∃ X : World, X = w.alloc (.cells #[v.g, v.s, v.c, v.l, v.i, v.o, v.h, v.f, v.t] 27) := ⟨_, rfl⟩
  have L0 : Hid (LawW w m v X) := Lib.hid (by rw [hX]; exact LawW.start h hnm htb)
  have HX := Lib.hid hX
  clear hX h hnm htb
  simp only [Vm.arr]
  go_enter Tryd.func7, Tryd.ntmps7
  go_wp2_with fail
  rw [← HX.out]
  refine (alive10_any L0.out.nm L0.out.tb).mono ?_
  rintro e w1 ⟨rfl, hb⟩
  have L1 := Lib.hid (L0.out.step hb)
  clear hb
  obtain ⟨p0, p1, p2, p3, p4, p5, p6, p7, p8⟩ := L1.out.blk.all
  have C := Lib.hid (weighm_any L1.out.mo 20000 (by omega) (by omega))
  obtain ⟨W, hW⟩ : ∃ W, W = weighM m 20000 := ⟨_, rfl⟩
  rw [← hW] at C
  simp only [Vm.arr] at C
  have HW := Lib.hid hW
  clear hW
  go_wp2_with fail
  refine C.out.mono ?_
  rintro e w2 ⟨rfl, hb⟩
  have L2 := Lib.hid (L1.out.step hb)
  clear hb C p0 p1 p2 p3 p4 p5 p6 p7 p8
  by_cases hle : W ≤ 20000
  · have HL := Lib.hid (lightM (by rw [← HW.out]; exact hle))
    obtain ⟨p0, p1, p2, p3, p4, p5, p6, p7, p8⟩ := L2.out.blk.all
    have C := Lib.hid (copyModule_any L2.out.mo (lightM.copy HL.out (by omega)).1 (lightM.copy HL.out (by omega)).2)
    simp only [Vm.arr] at C
    go_wp2_with fail
    refine C.out.mono ?_
    intro e w3 hnm3
    obtain ⟨v', rfl, hin, hb⟩ := hnm3.is_
    clear hnm3
    have L3 := Lib.hid (L2.out.step hb)
    have hin' := hin.keep (S' := (· < w3.heap.size)) (fun _ _ => rfl) (fun b hb => hb.2)
    have C2 := Lib.hid (show_any hin' L3.out.nm L3.out.tb)
    clear hb C p0 p1 p2 p3 p4 p5 p6 p7 p8 hin hin'
    simp only [Vm.arr] at C2 ⊢
    go_wp2_with fail
    refine C2.out.mono ?_
    rintro e w4 ⟨rfl, hb⟩
    have L4 := Lib.hid (L3.out.step hb)
    clear hb C2
    obtain ⟨A0, c0, e0, hc0, hM0⟩ := L4.out.mo.g.form
    obtain ⟨A7, c7, e7, hc7, hM7⟩ := L4.out.mo.f.form
    obtain ⟨n0, hn0⟩ : ∃ n, n = m.globals.length := ⟨_, rfl⟩
    obtain ⟨n7, hn7⟩ : ∃ n, n = m.funcs.length := ⟨_, rfl⟩
    have HG : Hid (Lies KS w4 (· < w4.heap.size) m.globals (.slice A0 n0 c0)) := Lib.hid (by have := L4.out.mo.g; rw [e0, ← hn0] at this; exact this)
    rw [← hn0] at e0 hc0 hM0
    rw [← hn7] at e7 hc7 hM7
    obtain ⟨q, hq⟩ : ∃ q, q = rightM m := ⟨_, rfl⟩
    have KSS : Hid (∀ wx, LawW w m v wx → wx.cell? ⟨w.heap.size, 0, none⟩ = some (.slice A0 n0 c0) ∧ wx.cell? ⟨w.heap.size, 1, none⟩ = some v.s ∧ wx.cell? ⟨w.heap.size, 2, none⟩ = some v.c ∧ wx.cell? ⟨w.heap.size, 3, none⟩ = some v.l ∧ wx.cell? ⟨w.heap.size, 4, none⟩ = some v.i ∧ wx.cell? ⟨w.heap.size, 5, none⟩ = some v.o ∧ wx.cell? ⟨w.heap.size, 6, none⟩ = some v.h ∧ wx.cell? ⟨w.heap.size, 7, none⟩ = some (.slice A7 n7 c7) ∧ wx.cell? ⟨w.heap.size, 8, none⟩ = some v.t) := Lib.hid (fun wx hx => by
      have := hx.blk.all
      rw [e0, e7] at this
      exact this)
    have HR4 : Hid (∀ wx, LawW w m v wx → Calls Tryd.prog 15 #[.agg #[.slice A0 n0 c0, v.s, v.c, v.l, v.i, v.o, v.h, .slice A7 n7 c7, v.t]] wx fun e w' => e = .returned (.int .i64 (if q = true then sumC m.funcs else 0)) ∧ Below wx.heap.size wx w') := Lib.hid (fun wx hx => by
      have := sizeR_any hx.mo
      rw [Vm.arr, e0, e7, ← hq] at this
      exact this)
    have HR5 : Hid (∀ wx, LawW w m v wx → Calls Tryd.prog 13 #[.agg #[.slice A0 n0 c0, v.s, v.c, v.l, v.i, v.o, v.h, .slice A7 n7 c7, v.t]] wx fun e w' => e = .returned (.int .i64 (if q = true then sumS m.globals else 0)) ∧ Below wx.heap.size wx w') := Lib.hid (fun wx hx => by
      have := wordsR_any hx.mo
      rw [Vm.arr, e0, e7, ← hq] at this
      exact this)
    obtain ⟨p0, p1, p2, p3, p4, p5, p6, p7, p8⟩ := KSS.out w4 L4.out
    rw [← hq]
    have HQ := Lib.hid hq
    have HN0 := Lib.hid hn0
    have HN7 := Lib.hid hn7
    clear hq e0 e7 hn0 hn7
    cases q with
    | false =>
      clear L0 L1 L2 L3
      go_wp2_with fail
      refine (HR4.out w4 L4.out).mono ?_
      rintro e w5 ⟨rfl, hb⟩
      have L5 := Lib.hid (L4.out.step hb)
      clear hb HR4 p0 p1 p2 p3 p4 p5 p6 p7 p8
      obtain ⟨p0, p1, p2, p3, p4, p5, p6, p7, p8⟩ := KSS.out w5 L5.out
      go_wp2_with fail
      refine (HR5.out w5 L5.out).mono ?_
      rintro e w6 ⟨rfl, hb⟩
      have L6 := Lib.hid (L5.out.step hb)
      clear hb HR5
      go_wp2
      go_ret
      exact ⟨rfl, L6.out.below⟩
    | true =>
      have hub := showU_bound L4.out.mo HQ.out.symm
      obtain ⟨us, hus⟩ : ∃ us, us = showR m := ⟨_, rfl⟩
      have hsr : us = showU m m.funcs.length := by rw [hus]; unfold showR; rw [if_pos HQ.out.symm]
      have HS := Lib.hid hsr
      rw [← hsr] at hub
      rw [← hus]
      clear hus hsr
      have hpp : partsM m = true ∧ funcsM m = true := by
        have h1 := HQ.out.symm
        unfold rightM at h1
        simp only [Bool.and_eq_true] at h1
        exact h1.1
      have HGS := Lib.hid (partsM_globals hpp.1)
      have HFB := Lib.hid (funcsM_fns hpp.2)
      have HSU := Lib.hid (show (∀ j, 0 ≤ sumS (m.globals.drop j)) ∧ sumS m.globals ≤ 32 from ⟨fun j => (sumS_bound _ (fun s hq => HGS.out.1 s (List.drop_subset _ _ hq))).1, by have := (sumS_bound _ HGS.out.1).2; have := HGS.out.2; omega⟩)
      have HSC : Hid (0 ≤ sumC m.funcs ∧ sumC m.funcs ≤ 4096) := Lib.hid (by rw [← sumN_c]; have := (rightP HQ.out.symm).sum; omega)
      have HNL := Lib.hid (showU_lines m)
      clear hpp
      obtain ⟨S, hS⟩ : ∃ S, S = bs us := ⟨_, rfl⟩
      obtain ⟨n, hn⟩ : ∃ n, n = us.length := ⟨_, rfl⟩
      have hsz : S.size = n := by rw [hS, bs_size, hn]
      have HB : Hid (∀ (j : Nat) (h : j < S.size) (h' : j < us.length), S[j] = us[j]) := Lib.hid (fun j h h' => by subst hS; rfl)
      rw [← hS]
      rw [← hn] at hub
      have HN := Lib.hid hn
      clear hn hS
      go_wp2
      go_loop [5, 6] (fun u i => ∃ (j : Nat) (k : Nat), j ≤ n ∧ i = .int .i64 j ∧ u = .int .i64 k ∧ k ≤ j ∧ Hid (k = nls (us.take j))) (fun _ i => n - (intOf i).toNat)
      case atStart => exact ⟨0, 0, Nat.zero_le _, rfl, rfl, Nat.le_refl _, Lib.hid rfl⟩
      case round =>
        obtain ⟨j, k, hj, rfl, rfl, hkj, HK⟩ := hrel
        by_cases hlt : j < n
        · have hje : j < us.length := by rw [← HN.out]; exact hlt
          have HB' := HB.out j (by omega) hje
          go_wp2
          · rename_i hten
            go_round
            case rel =>
              refine ⟨j + 1, k + 1, by omega, by go_num, by go_num, by omega, Lib.hid ?_⟩
              rw [nls_take hje, ← HK.out, if_pos]
              simp only [beq_iff_eq] at hten
              apply UInt8.toNat.inj
              show us[j].toNat = 10
              omega
            case measure => simp [intOf]; omega
          · rename_i hten
            go_round
            case rel =>
              refine ⟨j + 1, k, by omega, by go_num, rfl, by omega, Lib.hid ?_⟩
              rw [nls_take hje, ← HK.out, if_neg, Nat.add_zero]
              intro h10
              rw [h10] at hten
              simp at hten
            case measure => simp [intOf]; omega
        · have HK2 : Hid ((k : Int) = n7 + sumC m.funcs) := Lib.hid (by
            have h1 := HNL.out
            rw [← HS.out, ← HN7.out] at h1
            rw [← h1, HK.out, List.take_of_length_le (by rw [← HN.out]; omega)])
          clear HB HK HNL HS
          go_wp2
          go_loop [7, 8] (fun u i => ∃ (jj : Nat) (nn : Int), jj ≤ n0 ∧ i = .int .i64 jj ∧ u = .int .i64 nn ∧ Hid (nn + sumS (m.globals.drop jj) = sumS m.globals) ∧ 0 ≤ nn) (fun _ i => n0 - (intOf i).toNat)
          case atStart => exact ⟨0, 0, Nat.zero_le _, rfl, rfl, Lib.hid (by simp), by omega⟩
          case round =>
            obtain ⟨jj, nn, hjj, rfl, rfl, HSJ, hnn⟩ := hrel
            by_cases hltt : jj < n0
            · have hjg : jj < m.globals.length := by rw [← HN0.out]; exact hltt
              obtain ⟨b, off, rfl, hbS, r0, r1, -, hin⟩ := HG.out.sized jj hjg
              have hsu := HSJ.out
              rw [drop_at hjg, sumS] at hsu
              have hr := HSU.out.1 (jj + 1)
              have hr2 := HSU.out.2
              have hsz2 := HGS.out.1 _ (List.getElem_mem hjg)
              obtain ⟨Y, hY⟩ : ∃ Y, Y = m.globals[jj] := ⟨_, rfl⟩
              rw [← hY] at r0 r1 hsu hsz2 hin
              clear hY
              have x1 := IntWalk.i64_in (nn + Y.size) (by omega)
              have HSJ2 : Hid (nn + Y.size + sumS (m.globals.drop (jj + 1)) = sumS m.globals) := Lib.hid (by omega)
              have HN2 : Hid (0 ≤ nn + Y.size) := Lib.hid (by omega)
              clear hsu hr hr2
              go_wp2
              go_round
              case rel => exact ⟨jj + 1, _, by omega, by go_num, rfl, HSJ2, HN2.out⟩
              case measure => simp [intOf]; omega
            · have HE : Hid (nn = sumS m.globals) := Lib.hid (by
                have := HSJ.out
                rw [List.drop_of_length_le (by rw [← HN0.out]; omega)] at this
                simpa [sumS] using this)
              have LD := Lib.hid L4.out.drew
              obtain ⟨sc, hsc⟩ : ∃ sc, sc = sumC m.funcs := ⟨_, rfl⟩
              obtain ⟨ss, hss⟩ : ∃ ss, ss = sumS m.globals := ⟨_, rfl⟩
              have hk2 := HK2.out
              have hsb := HSC.out
              have he := HE.out
              rw [← hsc] at HR4 hk2 hsb
              rw [← hss] at HR5 he
              have x1 : IntKind.i64.wrap ((n7 : Int) + sc) = (k : Int) := by rw [IntWalk.i64_in _ (by omega)]; omega
              subst he
              clear HK2 HSC HE HSJ HSU HGS HFB hsc hss hk2 hsb L0 L1 L2 L3 HN7 HN0 HN HG
              simp only [if_pos] at HR4 HR5
              go_wp2_with fail
              go_region_held3 (fun w' => w'.cell? ⟨w.heap.size, 0, none⟩ = some (.slice A0 n0 c0) ∧ w'.cell? ⟨w.heap.size, 1, none⟩ = some v.s ∧ w'.cell? ⟨w.heap.size, 2, none⟩ = some v.c ∧ w'.cell? ⟨w.heap.size, 3, none⟩ = some v.l ∧ w'.cell? ⟨w.heap.size, 4, none⟩ = some v.i ∧ w'.cell? ⟨w.heap.size, 5, none⟩ = some v.o ∧ w'.cell? ⟨w.heap.size, 6, none⟩ = some v.h ∧ w'.cell? ⟨w.heap.size, 7, none⟩ = some (.slice A7 n7 c7) ∧ w'.cell? ⟨w.heap.size, 8, none⟩ = some v.t) (first | with_reducible exact KSS.out _ LD.out | with_reducible exact KSS.out _ L5.out | with_reducible exact KSS.out _ L6.out | go_keep)
                (first
                  | (go_at_call 15; with_reducible refine (HR4.out _ LD.out).mono ?_; (rintro e w5 ⟨rfl, hb⟩; have L5 := Lib.hid (LD.out.step hb); clear hb))
                  | (go_at_call 13; with_reducible refine (HR5.out _ L5.out).mono ?_; (rintro e w6 ⟨rfl, hb⟩; have L6 := Lib.hid (L5.out.step hb); clear hb)))
              all_goals
                clear x1
                go_wp2
                go_ret
                exact ⟨rfl, L6.out.below⟩
  · clear HW L0 L1
    go_wp2
    go_ret
    exact ⟨rfl, L2.out.below⟩

end Go.Proofs.YtgohnlcgidmlfaaDoor
