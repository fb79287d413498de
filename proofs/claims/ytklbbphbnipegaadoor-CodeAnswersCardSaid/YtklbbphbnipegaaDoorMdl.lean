/- Two programs' code that is the same: told so. -/
import Derived.Test.YtklbbphbnipegaaDoorMdk
import Derived.Test.YtklbbphbnipegaaDoorMdj
set_option linter.unusedVariables false
set_option linter.unusedSimpArgs false
namespace Go.Proofs.YtklbbphbnipegaaDoor
open Go.RowKit

theorem Drawn.trans {a b c : World} (h : Drawn a b) (k : Drawn b c) : Drawn a c := by
  obtain ⟨n, rfl⟩ := k
  exact h.more n

set_option maxHeartbeats 8000000 in
set_option maxRecDepth 100000 in
theorem sameModule_at {w : World} {m : Mo} {v v' : Vm} (h : IsMo w (· < w.heap.size) m v) (h' : IsMo w (· < w.heap.size) m v') :
    Calls Tryd.prog 17 #[.agg v.arr, .agg v'.arr] w fun e w' => e = .returned (.bool true) ∧ Below w.heap.size w w' := by
  obtain ⟨A7, c7, e7, hc7, hM7⟩ := h.f.form
  obtain ⟨A8, c8, e8, hc8, -⟩ := h'.f.form
  obtain ⟨n7, hn7⟩ : ∃ n, n = m.funcs.length := ⟨_, rfl⟩
  rw [← hn7] at e7 hc7 hM7 e8 hc8
  obtain ⟨X, hX⟩ : ∃ X : World, X = (w.alloc (.cells #[v.g, v.s, v.c, v.l, v.i, v.o, v.h, v.f, v.t] 27)).alloc (.cells #[v'.g, v'.s, v'.c, v'.l, v'.i, v'.o, v'.h, v'.f, v'.t] 27) := ⟨_, rfl⟩
  obtain ⟨g, hg⟩ : ∃ g, g = w.heap.size := ⟨_, rfl⟩
  have hx1 : MoBlk X g v := by rw [hX, hg]; exact (Below.heap_alloc _ _ _ (by simp)).trans (MoBlk.of_alloc w v)
  have hx2 : MoBlk X (g + 1) v' := by
    have := MoBlk.of_alloc (w.alloc (.cells #[v.g, v.s, v.c, v.l, v.i, v.o, v.h, v.f, v.t] 27)) v'
    rw [asz, ← hg] at this
    rw [hX]
    exact this
  have hxs : X.heap.size = g + 2 := by rw [hX, hg]; simp
  have hxb : Below g w X := by rw [hX, hg]; exact ((Below.refl _ w).alloc (Nat.le_refl _) _).alloc (by simp) _
  have hin : ∀ wx, Below g w wx → IsMo wx (· < g) m v := fun wx hb => by
    have := h.below (B := w.heap.size) (w' := wx) (by rw [← hg]; exact hb)
    rw [← hg] at this
    exact this
  have hin' : ∀ wx, Below g w wx → IsMo wx (· < g) m v' := fun wx hb => by
    have := h'.below (B := w.heap.size) (w' := wx) (by rw [← hg]; exact hb)
    rw [← hg] at this
    exact this
  have hdb : ∀ wx, Drawn X wx → Below g w wx := fun wx hd => hxb.trans (hd.below)
  simp only [Vm.arr]
  have C0 := Lib.hid (show ∀ wx, Drawn X wx → Calls Tryd.prog 35 #[v.g, v'.g] wx (fun e w' => e = .returned (.bool true) ∧ Drawn wx w') from fun wx hd => sameSized_at (hin wx (hdb wx hd)).g (hin' wx (hdb wx hd)).g)
  have C1 := Lib.hid (show ∀ wx, Drawn X wx → Calls Tryd.prog 35 #[v.s, v'.s] wx (fun e w' => e = .returned (.bool true) ∧ Drawn wx w') from fun wx hd => sameSized_at (hin wx (hdb wx hd)).s (hin' wx (hdb wx hd)).s)
  have C2 := Lib.hid (show ∀ wx, Drawn X wx → Calls Tryd.prog 35 #[v.c, v'.c] wx (fun e w' => e = .returned (.bool true) ∧ Drawn wx w') from fun wx hd => sameSized_at (hin wx (hdb wx hd)).c (hin' wx (hdb wx hd)).c)
  have C3 := Lib.hid (show ∀ wx, Drawn X wx → Calls Tryd.prog 36 #[v.l, v'.l] wx (fun e w' => e = .returned (.bool true) ∧ Drawn wx w') from fun wx hd => sameTexts_at (hin wx (hdb wx hd)).l (hin' wx (hdb wx hd)).l)
  have C4 := Lib.hid (show ∀ wx, Drawn X wx → Calls Tryd.prog 36 #[v.i, v'.i] wx (fun e w' => e = .returned (.bool true) ∧ Drawn wx w') from fun wx hd => sameTexts_at (hin wx (hdb wx hd)).i (hin' wx (hdb wx hd)).i)
  have C5 := Lib.hid (show ∀ wx, Drawn X wx → Calls Tryd.prog 36 #[v.o, v'.o] wx (fun e w' => e = .returned (.bool true) ∧ Drawn wx w') from fun wx hd => sameTexts_at (hin wx (hdb wx hd)).o (hin' wx (hdb wx hd)).o)
  have C6 := Lib.hid (show ∀ wx, Drawn X wx → Calls Tryd.prog 36 #[v.h, v'.h] wx (fun e w' => e = .returned (.bool true) ∧ Drawn wx w') from fun wx hd => sameTexts_at (hin wx (hdb wx hd)).h (hin' wx (hdb wx hd)).h)
  have C7 := Lib.hid (show ∀ wx, Drawn X wx → Calls Tryd.prog 37 #[v.t, v'.t] wx (fun e w' => e = .returned (.bool true) ∧ Drawn wx w') from fun wx hd => sameInts_at (hin wx (hdb wx hd)).t (hin' wx (hdb wx hd)).t)
  have CC := Lib.hid (show ∀ wx, Drawn X wx → wx.cell? ⟨g, 0, none⟩ = some v.g ∧ wx.cell? ⟨g + 1, 0, none⟩ = some v'.g ∧ wx.cell? ⟨g, 1, none⟩ = some v.s ∧ wx.cell? ⟨g + 1, 1, none⟩ = some v'.s ∧ wx.cell? ⟨g, 2, none⟩ = some v.c ∧ wx.cell? ⟨g + 1, 2, none⟩ = some v'.c ∧ wx.cell? ⟨g, 3, none⟩ = some v.l ∧ wx.cell? ⟨g + 1, 3, none⟩ = some v'.l ∧ wx.cell? ⟨g, 4, none⟩ = some v.i ∧ wx.cell? ⟨g + 1, 4, none⟩ = some v'.i ∧ wx.cell? ⟨g, 5, none⟩ = some v.o ∧ wx.cell? ⟨g + 1, 5, none⟩ = some v'.o ∧ wx.cell? ⟨g, 6, none⟩ = some v.h ∧ wx.cell? ⟨g + 1, 6, none⟩ = some v'.h ∧ wx.cell? ⟨g, 8, none⟩ = some v.t ∧ wx.cell? ⟨g + 1, 8, none⟩ = some v'.t from fun wx hd => by
    obtain ⟨a0, a1, a2, a3, a4, a5, a6, a7, a8⟩ := (hx1.below (B := g + 2) hd.below (by omega)).all
    obtain ⟨b0, b1, b2, b3, b4, b5, b6, b7, b8⟩ := (hx2.below (B := g + 2) hd.below (by omega)).all
    exact ⟨a0, b0, a1, b1, a2, b2, a3, b3, a4, b4, a5, b5, a6, b6, a8, b8⟩)
  have CF := Lib.hid (show ∀ wx, Below (g + 2) X wx → wx.cell? ⟨g, 7, none⟩ = some (.slice A7 n7 c7) ∧ wx.cell? ⟨g + 1, 7, none⟩ = some (.slice A8 n7 c8) from fun wx hd => by
    have a7 := (hx1.below hd (by omega)).cell 7
    have b7 := (hx2.below hd (by omega)).cell 7
    rw [← e7, ← e8]
    exact ⟨a7, b7⟩)
  have HXX := Lib.hid hX
  have HG := Lib.hid hg
  have HXB := Lib.hid hxb
  have HXS := Lib.hid hxs
  have HIN := Lib.hid hin
  have HIN' := Lib.hid hin'
  have HN7 := Lib.hid hn7
  have HE := Lib.hid (And.intro e7 e8)
  clear h h' hX hg hx1 hx2 hxs hxb hin hin' hdb hn7 e7 e8
  go_enter Tryd.func17, Tryd.ntmps17
  go_wp2_with fail
  rw [← HXX.out]
  rw [← HG.out]
  have HD := Lib.hid (Drawn.refl X)
  refine (C0.out _ HD.out).mono ?_
  rintro e w0 ⟨rfl, hd0⟩
  have HD0 := Lib.hid (HD.out.trans hd0)
  clear hd0
  obtain ⟨-, -, x1a, x1b, -, -, -, -, -, -, -, -, -, -, -, -⟩ := CC.out _ HD0.out
  go_wp2_with fail
  refine (C1.out _ HD0.out).mono ?_
  rintro e w1 ⟨rfl, hd1⟩
  have HD1 := Lib.hid (HD0.out.trans hd1)
  clear hd1
  obtain ⟨-, -, -, -, x2a, x2b, -, -, -, -, -, -, -, -, -, -⟩ := CC.out _ HD1.out
  go_wp2_with fail
  refine (C2.out _ HD1.out).mono ?_
  rintro e w2 ⟨rfl, hd2⟩
  have HD2 := Lib.hid (HD1.out.trans hd2)
  clear hd2
  obtain ⟨-, -, -, -, -, -, x3a, x3b, -, -, -, -, -, -, -, -⟩ := CC.out _ HD2.out
  go_wp2_with fail
  refine (C3.out _ HD2.out).mono ?_
  rintro e w3 ⟨rfl, hd3⟩
  have HD3 := Lib.hid (HD2.out.trans hd3)
  clear hd3
  obtain ⟨-, -, -, -, -, -, -, -, x4a, x4b, -, -, -, -, -, -⟩ := CC.out _ HD3.out
  go_wp2_with fail
  refine (C4.out _ HD3.out).mono ?_
  rintro e w4 ⟨rfl, hd4⟩
  have HD4 := Lib.hid (HD3.out.trans hd4)
  clear hd4
  obtain ⟨-, -, -, -, -, -, -, -, -, -, x5a, x5b, -, -, -, -⟩ := CC.out _ HD4.out
  go_wp2_with fail
  refine (C5.out _ HD4.out).mono ?_
  rintro e w5 ⟨rfl, hd5⟩
  have HD5 := Lib.hid (HD4.out.trans hd5)
  clear hd5
  obtain ⟨-, -, -, -, -, -, -, -, -, -, -, -, x6a, x6b, -, -⟩ := CC.out _ HD5.out
  go_wp2_with fail
  refine (C6.out _ HD5.out).mono ?_
  rintro e w6 ⟨rfl, hd6⟩
  have HD6 := Lib.hid (HD5.out.trans hd6)
  clear hd6
  obtain ⟨-, -, -, -, -, -, -, -, -, -, -, -, -, -, x7a, x7b⟩ := CC.out _ HD6.out
  go_wp2_with fail
  refine (C7.out _ HD6.out).mono ?_
  rintro e w7 ⟨rfl, hd7⟩
  have HD7 := Lib.hid (HD6.out.trans hd7)
  clear hd7
  obtain ⟨f7, f8⟩ := CF.out _ HD7.out.below
  have hs7 : w7.heap.size = g + 2 := by rw [HD7.out.heap, HXS.out]
  have HB7 := Lib.hid (show Below (g + 2) X w7 from HD7.out.below)
  clear C0 C1 C2 C3 C4 C5 C6 C7 CC
  go_wp2
  clear f7 f8
  go_loopw [5] (fun i wr => ∃ j : Nat, j ≤ n7 ∧ i = .int .i64 j ∧ Hid (Below (g + 2) X wr) ∧ g + 2 ≤ wr.heap.size) (fun i _ => n7 - (intOf i).toNat)
  case atStart => exact ⟨0, Nat.zero_le _, rfl, HB7, by omega⟩
  case round =>
    obtain ⟨wo, rfl⟩ : ∃ wo : World, wo = wr := ⟨_, rfl⟩
    obtain ⟨j, hj, rfl, HBL, hws⟩ := hrel
    obtain ⟨f7, f8⟩ := CF.out _ HBL.out
    have hbw : Below g w wo := HXB.out.trans (HBL.out.mono (by omega))
    by_cases hlt : j < n7
    · have hje : j < m.funcs.length := by rw [← HN7.out]; exact hlt
      have hfl := (HIN.out wo hbw).f
      have hfl' := (HIN'.out wo hbw).f
      rw [HE.out.1] at hfl
      rw [HE.out.2] at hfl'
      obtain ⟨b1, off1, cv, rfl, hb1, hat, hcode, -⟩ := hfl.fn j hje
      obtain ⟨b2, off2, cv', rfl, hb2, hat', hcode', -⟩ := hfl'.fn j hje
      obtain ⟨Y, hY⟩ : ∃ Y, Y = m.funcs[j] := ⟨_, rfl⟩
      rw [← hY] at hat hcode hat' hcode'
      obtain ⟨A9, c9, rfl, l9, b9⟩ := hcode.form
      obtain ⟨A10, c10, rfl, l10, -⟩ := hcode'.form
      obtain ⟨n9, hn9⟩ : ∃ n, n = Y.code.length := ⟨_, rfl⟩
      rw [← hn9] at hat hcode hat' hcode' l9 l10 b9
      obtain ⟨r0, r1, r2, r3, r4⟩ := hat
      obtain ⟨s0, s1, s2, s3, s4⟩ := hat'
      obtain ⟨X1, hX1⟩ : ∃ X1 : World, X1 = (wo.alloc (.cells #[.string (bs Y.name), .int .i64 Y.params, .int .i64 Y.regs, .int .i64 Y.result, .slice A9 n9 c9] 39)).alloc (.cells #[.string (bs Y.name), .int .i64 Y.params, .int .i64 Y.regs, .int .i64 Y.result, .slice A10 n9 c10] 39) := ⟨_, rfl⟩
      obtain ⟨P, hP⟩ : ∃ P, P = wo.heap.size := ⟨_, rfl⟩
      have hx1 : FnBlk X1 P Y (.slice A9 n9 c9) := by rw [hX1, hP]; exact (Below.heap_alloc _ _ _ (by simp)).trans (FnBlk.new wo Y _)
      have hx2 : FnBlk X1 (P + 1) Y (.slice A10 n9 c10) := by
        have := FnBlk.new (wo.alloc (.cells #[.string (bs Y.name), .int .i64 Y.params, .int .i64 Y.regs, .int .i64 Y.result, .slice A9 n9 c9] 39)) Y (.slice A10 n9 c10)
        rw [asz, ← hP] at this
        rw [hX1]
        exact this
      have hx1s : X1.heap.size = P + 2 := by rw [hX1, hP]; simp
      have hx1b : Below P wo X1 := by rw [hX1, hP]; exact ((Below.refl _ wo).alloc (Nat.le_refl _) _).alloc (by simp) _
      have hf : ∀ wx, Below (P + 2) X1 wx → wx.cell? ⟨P, 4, none⟩ = some (.slice A9 n9 c9) ∧ wx.cell? ⟨P + 1, 4, none⟩ = some (.slice A10 n9 c10) := fun wx hb =>
        ⟨(hx1.below hb (by omega)).all.2.2.2.2, (hx2.below hb (by omega)).all.2.2.2.2⟩
      have hpg : g + 2 ≤ P := by omega
      have hkp : ∀ wx, Below (P + 2) X1 wx → ∀ b, b < g → wx.heap[b]? = wo.heap[b]? := fun wx hb b hq => (hb.block b (by omega)).trans (hx1b.block b (by omega))
      have HX1E := Lib.hid hX1
      have HP := Lib.hid hP
      have HF := Lib.hid hf
      have HX1S := Lib.hid hx1s
      have HX1B := Lib.hid hx1b
      have HKP := Lib.hid hkp
      have HCO := Lib.hid hcode
      have HCO' := Lib.hid hcode'
      have HN9 := Lib.hid hn9
      clear hX1 hP hx1 hx2 hx1s hx1b hf hkp hcode hcode' hn9 hY hfl hfl' hbw
      have hg1 : g + 1 < wo.heap.size := by omega
      have hg0 : g < wo.heap.size := by omega
      have hb2s : b2 < wo.heap.size := by omega
      have hb1s : b1 < wo.heap.size := by omega
      go_wp2
      rw [← HX1E.out, ← HP.out]
      clear r0 r1 r2 r3 r4 s0 s1 s2 s3 s4 f7 f8
      go_loopw [8] (fun i wr => ∃ k : Nat, k ≤ n9 ∧ i = .int .i64 k ∧ Hid (Below (P + 2) X1 wr) ∧ P + 2 ≤ wr.heap.size) (fun i _ => n9 - (intOf i).toNat)
      case atStart => exact ⟨0, Nat.zero_le _, rfl, Lib.hid (Below.refl _ _), by have := HX1S.out; omega⟩
      case round =>
        obtain ⟨wi, rfl⟩ : ∃ wi : World, wi = wr := ⟨_, rfl⟩
        obtain ⟨kk, hkk, rfl, HBI, hsi⟩ := hrel
        obtain ⟨q4, q4'⟩ := HF.out _ HBI.out
        by_cases hlk : kk < n9
        · have hke : kk < Y.code.length := by rw [← HN9.out]; exact hlk
          obtain ⟨b3, off3, av, rfl, hb3, hat, hargs, -⟩ := HCO.out.op kk hke
          obtain ⟨b4, off4, av', rfl, hb4, hat', hargs', -⟩ := HCO'.out.op kk hke
          obtain ⟨Z, hZ⟩ : ∃ Z, Z = Y.code[kk] := ⟨_, rfl⟩
          rw [← hZ] at hat hargs hat' hargs'
          obtain ⟨A11, c11, rfl, -, -⟩ := hargs.form
          obtain ⟨A12, c12, rfl, -, -⟩ := hargs'.form
          have hcall : ∀ wx, Below (P + 2) X1 wx → P + 2 ≤ wx.heap.size → Calls Tryd.prog 38 #[.agg #[.int .i64 Z.kind, .int .i64 Z.a, .int .i64 Z.b, .int .i64 Z.c, .int .i64 Z.d, .int .i64 Z.e, .int .i64 Z.f, .int .i64 Z.k, .slice A11 Z.args.length c11, .int .i64 Z.next, .int .i64 Z.els, .int .i64 Z.pl], .agg #[.int .i64 Z.kind, .int .i64 Z.a, .int .i64 Z.b, .int .i64 Z.c, .int .i64 Z.d, .int .i64 Z.e, .int .i64 Z.f, .int .i64 Z.k, .slice A12 Z.args.length c12, .int .i64 Z.next, .int .i64 Z.els, .int .i64 Z.pl]] wx fun e w' => e = .returned (.bool true) ∧ Below wx.heap.size wx w' := fun wx hb hz =>
            sameOp_at (hargs.keep (HKP.out wx hb) (fun _ h => h)) (hargs'.keep (HKP.out wx hb) (fun _ h => h)) (fun b hq => by omega) (fun b hq => by omega)
          obtain ⟨n11, hn11⟩ : ∃ n, n = Z.args.length := ⟨_, rfl⟩
          rw [← hn11] at hat hat' hcall
          have hS : ∀ wx, Below (P + 2) X1 wx → wx.cell? ⟨P, 4, none⟩ = some (.slice (some ⟨b3, off3, none⟩) n9 c9) ∧ wx.cell? ⟨P + 1, 4, none⟩ = some (.slice (some ⟨b4, off4, none⟩) n9 c10) ∧ wx.cell? ⟨b3, off3 + kk * 12, none⟩ = some (.int .i64 Z.kind) ∧ wx.cell? ⟨b3, off3 + kk * 12 + 1, none⟩ = some (.int .i64 Z.a) ∧ wx.cell? ⟨b3, off3 + kk * 12 + 2, none⟩ = some (.int .i64 Z.b) ∧ wx.cell? ⟨b3, off3 + kk * 12 + 3, none⟩ = some (.int .i64 Z.c) ∧ wx.cell? ⟨b3, off3 + kk * 12 + 4, none⟩ = some (.int .i64 Z.d) ∧ wx.cell? ⟨b3, off3 + kk * 12 + 5, none⟩ = some (.int .i64 Z.e) ∧ wx.cell? ⟨b3, off3 + kk * 12 + 6, none⟩ = some (.int .i64 Z.f) ∧ wx.cell? ⟨b3, off3 + kk * 12 + 7, none⟩ = some (.int .i64 Z.k) ∧ wx.cell? ⟨b3, off3 + kk * 12 + 8, none⟩ = some (.slice A11 n11 c11) ∧ wx.cell? ⟨b3, off3 + kk * 12 + 9, none⟩ = some (.int .i64 Z.next) ∧ wx.cell? ⟨b3, off3 + kk * 12 + 10, none⟩ = some (.int .i64 Z.els) ∧ wx.cell? ⟨b3, off3 + kk * 12 + 11, none⟩ = some (.int .i64 Z.pl) ∧ wx.cell? ⟨b4, off4 + kk * 12, none⟩ = some (.int .i64 Z.kind) ∧ wx.cell? ⟨b4, off4 + kk * 12 + 1, none⟩ = some (.int .i64 Z.a) ∧ wx.cell? ⟨b4, off4 + kk * 12 + 2, none⟩ = some (.int .i64 Z.b) ∧ wx.cell? ⟨b4, off4 + kk * 12 + 3, none⟩ = some (.int .i64 Z.c) ∧ wx.cell? ⟨b4, off4 + kk * 12 + 4, none⟩ = some (.int .i64 Z.d) ∧ wx.cell? ⟨b4, off4 + kk * 12 + 5, none⟩ = some (.int .i64 Z.e) ∧ wx.cell? ⟨b4, off4 + kk * 12 + 6, none⟩ = some (.int .i64 Z.f) ∧ wx.cell? ⟨b4, off4 + kk * 12 + 7, none⟩ = some (.int .i64 Z.k) ∧ wx.cell? ⟨b4, off4 + kk * 12 + 8, none⟩ = some (.slice A12 n11 c12) ∧ wx.cell? ⟨b4, off4 + kk * 12 + 9, none⟩ = some (.int .i64 Z.next) ∧ wx.cell? ⟨b4, off4 + kk * 12 + 10, none⟩ = some (.int .i64 Z.els) ∧ wx.cell? ⟨b4, off4 + kk * 12 + 11, none⟩ = some (.int .i64 Z.pl) := fun wx hb => by
            obtain ⟨t0, t1⟩ := HF.out _ hb
            obtain ⟨r0, r1, r2, r3, r4, r5, r6, r7, r8, r9, r10, r11⟩ := hat.keep (HKP.out wx hb _ hb3)
            obtain ⟨s0, s1, s2, s3, s4, s5, s6, s7, s8, s9, s10, s11⟩ := hat'.keep (HKP.out wx hb _ hb4)
            exact ⟨t0, t1, r0, r1, r2, r3, r4, r5, r6, r7, r8, r9, r10, r11, s0, s1, s2, s3, s4, s5, s6, s7, s8, s9, s10, s11⟩
          have HC := Lib.hid hcall
          have HS := Lib.hid hS
          have hneg : (0 : Int) ≤ (kk : Int) := by omega
          have hltI : (kk : Int) < (n9 : Int) := by omega
          clear hat hat' hargs hargs' hcall hS hn11 hZ
          go_wp2
          go_region_held3 (fun w' => w'.cell? ⟨P, 4, none⟩ = some (.slice (some ⟨b3, off3, none⟩) n9 c9) ∧ w'.cell? ⟨P + 1, 4, none⟩ = some (.slice (some ⟨b4, off4, none⟩) n9 c10) ∧ w'.cell? ⟨b3, off3 + kk * 12, none⟩ = some (.int .i64 Z.kind) ∧ w'.cell? ⟨b3, off3 + kk * 12 + 1, none⟩ = some (.int .i64 Z.a) ∧ w'.cell? ⟨b3, off3 + kk * 12 + 2, none⟩ = some (.int .i64 Z.b) ∧ w'.cell? ⟨b3, off3 + kk * 12 + 3, none⟩ = some (.int .i64 Z.c) ∧ w'.cell? ⟨b3, off3 + kk * 12 + 4, none⟩ = some (.int .i64 Z.d) ∧ w'.cell? ⟨b3, off3 + kk * 12 + 5, none⟩ = some (.int .i64 Z.e) ∧ w'.cell? ⟨b3, off3 + kk * 12 + 6, none⟩ = some (.int .i64 Z.f) ∧ w'.cell? ⟨b3, off3 + kk * 12 + 7, none⟩ = some (.int .i64 Z.k) ∧ w'.cell? ⟨b3, off3 + kk * 12 + 8, none⟩ = some (.slice A11 n11 c11) ∧ w'.cell? ⟨b3, off3 + kk * 12 + 9, none⟩ = some (.int .i64 Z.next) ∧ w'.cell? ⟨b3, off3 + kk * 12 + 10, none⟩ = some (.int .i64 Z.els) ∧ w'.cell? ⟨b3, off3 + kk * 12 + 11, none⟩ = some (.int .i64 Z.pl) ∧ w'.cell? ⟨b4, off4 + kk * 12, none⟩ = some (.int .i64 Z.kind) ∧ w'.cell? ⟨b4, off4 + kk * 12 + 1, none⟩ = some (.int .i64 Z.a) ∧ w'.cell? ⟨b4, off4 + kk * 12 + 2, none⟩ = some (.int .i64 Z.b) ∧ w'.cell? ⟨b4, off4 + kk * 12 + 3, none⟩ = some (.int .i64 Z.c) ∧ w'.cell? ⟨b4, off4 + kk * 12 + 4, none⟩ = some (.int .i64 Z.d) ∧ w'.cell? ⟨b4, off4 + kk * 12 + 5, none⟩ = some (.int .i64 Z.e) ∧ w'.cell? ⟨b4, off4 + kk * 12 + 6, none⟩ = some (.int .i64 Z.f) ∧ w'.cell? ⟨b4, off4 + kk * 12 + 7, none⟩ = some (.int .i64 Z.k) ∧ w'.cell? ⟨b4, off4 + kk * 12 + 8, none⟩ = some (.slice A12 n11 c12) ∧ w'.cell? ⟨b4, off4 + kk * 12 + 9, none⟩ = some (.int .i64 Z.next) ∧ w'.cell? ⟨b4, off4 + kk * 12 + 10, none⟩ = some (.int .i64 Z.els) ∧ w'.cell? ⟨b4, off4 + kk * 12 + 11, none⟩ = some (.int .i64 Z.pl)) (first | (with_reducible exact HS.out _ HBI.out) | (with_reducible exact HS.out _ HBI.out.drew) | (with_reducible exact HS.out _ HB2.out) | go_keep)
            ((go_at_call 38; refine (HC.out _ (by first | (with_reducible exact HBI.out.drew) | (with_reducible exact HBI.out)) (by simp; omega)).mono ?_; rintro e w2 ⟨rfl, hb2⟩; have HB2 := Lib.hid (show Below (P + 2) X1 w2 from HBI.out.trans ((show Below wi.heap.size wi w2 from ⟨hb2.os, hb2.tape, hb2.output, hb2.size, hb2.block⟩).mono hsi)); have hs2 : wi.heap.size ≤ w2.heap.size := hb2.size; clear hb2))
          all_goals
            go_wp2
            go_roundw
            case rel => exact ⟨kk + 1, by omega, by go_num, HB2, by omega⟩
            case measure => simp [intOf]; omega
        · go_wp2
          go_roundw
          case rel => exact ⟨j + 1, by omega, by go_num, Lib.hid (HBL.out.trans ((HX1B.out.mono hpg).trans (HBI.out.mono (by omega)))), by omega⟩
          case measure => simp [intOf]; omega
    · go_wp2
      go_ret
      exact ⟨rfl, by rw [← HG.out]; exact hbw⟩

end Go.Proofs.YtklbbphbnipegaaDoor
