/- Fv -/
import Derived.Test.YtbckeljbpknbdaaGreatDoorVc4
set_option linter.unusedVariables false
set_option linter.unusedSimpArgs false
namespace Go.Proofs.YtbckeljbpknbdaaGreatDoor
open Go.RowKit
set_option maxRecDepth 100000 in
set_option maxHeartbeats 4000000 in
theorem Yfx {w : World} {B R L n : Nat} {t : Tok} {r : List Tok} (h : RdAt w B R L (t :: r)) (hB : B ≤ w.heap.size) (D : Int) (hD0 : 0 ≤ D) (hD1 : D ≤ 24)
  (hE : ∀ (w : World) (us : List Tok), RdAt w B R L us → B ≤ w.heap.size → Calls Tryz.prog 110 #[.pointer (some ⟨R, 0, none⟩), .int .i64 (D + 1)] w (Xaj (ExB w.heap.size) w B R L (Xah L n us))) (ht : t.text = [99, 97, 108, 108]) (hAR : ∀ (w : World) (us : List Tok), RdAt w B R L us → B ≤ w.heap.size → Calls Tryz.prog 113 #[.pointer (some ⟨R, 0, none⟩), .int .i64 (D + 1)] w (Xaj (ExsB w.heap.size) w B R L (Xgx L (Xah L n) us)))
  {T : Rd Sm} (hM : T = (Xbo L r).bind fun s r2 => if tx r2 = [61] then (Xbo L r2.tail).bind fun f r3 => (Xgx L (Xah L n) r3).bind fun xs r4 => endM L (.mk 10 t.pl f s xs [] []) r4 else (Xgx L (Xah L n) r2).bind fun xs r3 => endM L (.mk 10 t.pl s [] xs [] []) r3) : Calls Tryz.prog 84 #[.pointer (some ⟨R, 0, none⟩), .int .i64 D] w (Xaj (SmB w.heap.size) w B R L T) := by
 have HHR := lh h
 obtain ⟨X, hX⟩ : ∃ X : World, X = ((w.alloc (.cells #[.pointer (some ⟨R, 0, none⟩)] 52)).alloc (.cells #[.int .i64 D] 3)).alloc (.cells #[.int .i64 0, .int .i64 0, .string ⟨#[]⟩, .string ⟨#[]⟩, .slice none 0 0, .slice none 0 0, .slice none 0 0] 68) := ⟨_, rfl⟩
 have hbX : Below w.heap.size w X := by rw [hX]; exact ((Xae _ _).alloc (by simp) _).alloc (by simp; omega) _
 have hx0 : X.cell? ⟨w.heap.size, 0, none⟩ = some (.pointer (some ⟨R, 0, none⟩)) := by
  rw [hX]
  have h0 : (w.alloc (.cells #[.pointer (some ⟨R, 0, none⟩)] 52)).cell? ⟨w.heap.size, 0, none⟩ = some (.pointer (some ⟨R, 0, none⟩)) := by
   rw [cell_of_row _ _ 0 _ _ (0, 0) (heap_alloc_new w _)]; rfl
  exact Xaa (Xaa h0 _) _
 have HP := lh (Xan (h.below' hB hbX) (Nat.le_trans hB hbX.size) [[118, 97, 114], [115, 101, 116], [105, 102], [119, 104, 105, 108, 101], [108, 111, 99, 107], [117, 110, 108, 111, 99, 107], [115, 101, 110, 100], [114, 101, 99, 118], [111, 117, 116], [99, 97, 108, 108], [114, 101, 116, 117, 114, 110]] (by simp) (by decide))
 have HTK : Hid (Xal L [[118, 97, 114], [115, 101, 116], [105, 102], [119, 104, 105, 108, 101], [108, 111, 99, 107], [117, 110, 108, 111, 99, 107], [115, 101, 110, 100], [114, 101, 99, 118], [111, 117, 116], [99, 97, 108, 108], [114, 101, 116, 117, 114, 110]] (t :: r) = .ok t r) := lh (by rw [Xal, if_pos (by rw [ht]; decide)])
 rw [HTK.out, show X.heap.size = w.heap.size + 1 + 1 + 1 by rw [hX]; simp] at HP
 obtain ⟨K, hK⟩ : ∃ K : Int, K = (t.kind : Nat) := ⟨_, rfl⟩
 obtain ⟨S, hS⟩ : ∃ S, S = Xab t.text := ⟨_, rfl⟩
 obtain ⟨U, hU⟩ : ∃ U : Int, U = (t.pl : Nat) := ⟨_, rfl⟩
 have HTV : Hid (∀ v, TokV X t v → v = .agg #[.int .i64 K, .string S, .int .i64 U]) := lh fun v hv => by rw [hK, hS, hU]; exact hv.1
 have HX := lh hX
 have HB := lh hB
 have HRW := lh (show R < w.heap.size by have := h.lt; omega)
 have HU := lh hU
 have HE := lh hE
 have HM := lh hM
 have hwr : IntKind.i64.wrap (D + 1) = D + 1 := IntWalk.i64_in _ ⟨by omega, by omega⟩
 have hfT := Xdn
 have hst : S.toList = [99, 97, 108, 108] := by rw [hS, Xad, ht]
 have HAR := lh hAR
 clear h hB hbX hU hX hE hS hK hM ht hAR
 go_enter Tryz.func84, Tryz.ntmps84
 go_wp2_with fail
 rw [← HX.out]
 refine HP.out.mono ?_
 rintro e w1 ⟨⟨v1, rfl, hv1⟩, hr, hc⟩
 obtain rfl := HTV.out _ hv1
 have HR1 := lh hr
 have HC1 := lh hc
 clear hr hc hx0 hv1 HP HTK HTV
 go_upto_region 4 with (fail)
 obtain ⟨Y, hY⟩ : ∃ Y : World, Y = (w1.alloc (.cells #[.int .i64 K, .string S, .int .i64 U] 76)).alloc (.cells #[.int .i64 0, .int .i64 U, .string ⟨#[]⟩, .string ⟨#[]⟩, .slice none 0 0, .slice none 0 0, .slice none 0 0] 68) := ⟨_, rfl⟩
 rw [← hY]
 obtain ⟨hf, ht0⟩ := Xdv HB.out HRW.out HX.out HR1.out HC1.out _ hY
 obtain ⟨k0, k1, k2, -⟩ := row3 ht0
 have HF0 := lh hf
 have HO0 : Hid (Xaf Y (fun b => (w1.heap.size + 1 + 1) ≤ b) (w1.heap.size + 1 + 1) (.slice none 0 0) []) := lh (Xaf.nil _ _ _)
 have hn0 : ¬ w.heap.size = w1.heap.size + 1 := by have := hf.lo; omega
 have hn0' : ¬ w1.heap.size + 1 = w.heap.size := fun e => hn0 e.symm
 have hn1 : ¬ w.heap.size = w1.heap.size := by have := hf.lo; omega
 have hn1' : ¬ w1.heap.size = w.heap.size := fun e => hn1 e.symm
 clear hf ht0 hY
 obtain ⟨q0, q1⟩ := HF0.out.cells
 obtain ⟨a0, a1, a2, a3, a4, a5, a6, z0, z1, z2, z3, z4, z5, z6⟩ := row7 HF0.out.row
 obtain ⟨b0, b1, b2, b3, b4, b5, b6, f0, f1, f2, f3, f4, f5, f6⟩ := row7 HF0.out.res
 go_wp2_with fail
 refine (Xcr HF0.out.rd HF0.out.size).mono ?_
 rintro e w2 hp
 cases hx : Xbo L r with
 | bad p c =>
   have HM := lh (HM.out.trans (Xam hx))
   rw [hx] at hp
   obtain ⟨rfl, hc⟩ := hp
   have HC2 := lh (HF0.out.chg.up hc)
   clear hx hc
   unfold Xag
   go_wp2
   rw [HM.out]
   exact ⟨rfl, rfl, HC2.out⟩
 | ok x1 u2 =>
   have HM := lh (HM.out.trans (Xap hx))
   rw [hx] at hp
   obtain ⟨⟨v2, rfl, hv⟩, hr, hc⟩ := hp
   have HF2 := lh (HF0.out.step hr hc)
   have HO2 := lh (Xaq (fun b hb e => by have := HF0.out.rlo; omega) HF0.out.rlo HO0.out hc)
   clear hx hr hc q0 q1 a0 a1 a2 a3 a4 a5 a6 z0 z1 z2 z3 z4 z5 z6 b0 b1 b2 b3 b4 b5 b6 f0 f1 f2 f3 f4 f5 f6
   obtain ⟨q0, q1⟩ := HF2.out.cells
   obtain ⟨a0, a1, a2, a3, a4, a5, a6, z0, z1, z2, z3, z4, z5, z6⟩ := row7 HF2.out.row
   obtain ⟨b0, b1, b2, b3, b4, b5, b6, f0, f1, f2, f3, f4, f5, f6⟩ := row7 HF2.out.res
   obtain ⟨rfl, hl⟩ := hv
   have HLx1 := lh hl
   clear hl
   go_wp2_with fail
   obtain ⟨w3, hW⟩ : ∃ Z : World, Z = ((w2.setCell ⟨w1.heap.size + 1, 0, none⟩ (.int .i64 10)).setCell ⟨w1.heap.size + 1, 2, none⟩ (.string (Xab x1))) := ⟨_, rfl⟩
   rw [← hW]
   have HF3 : Hid (Xaz w B R L (w1.heap.size + 1) D U 10 (Xab x1) ⟨#[]⟩ (.slice none 0 0) (.slice none 0 0) w3 (.slice none 0 0) _) := lh (by rw [hW]; exact ((HF2.out.setK 10).setN (Xab x1)))
   have HWS3 : Hid (w3.heap.size = w2.heap.size) := lh (by rw [hW]; simp [World.setCell])
   have HO3 : Hid (Xaf w3 (fun b => (w1.heap.size + 1 + 1) ≤ b) (w1.heap.size + 1 + 1) (.slice none 0 0) []) := lh (by rw [hW]; exact (Xbr (fun b hb => hb) (by omega) (Xbr (fun b hb => hb) (by omega) HO2.out)))
   clear hW q0 q1 a0 a1 a2 a3 a4 a5 a6 z0 z1 z2 z3 z4 z5 z6 b0 b1 b2 b3 b4 b5 b6 f0 f1 f2 f3 f4 f5 f6
   obtain ⟨q0, q1⟩ := HF3.out.cells
   obtain ⟨a0, a1, a2, a3, a4, a5, a6, z0, z1, z2, z3, z4, z5, z6⟩ := row7 HF3.out.row
   obtain ⟨b0, b1, b2, b3, b4, b5, b6, f0, f1, f2, f3, f4, f5, f6⟩ := row7 HF3.out.res
   by_cases hs : tx u2 = [61]
   ·
    have HSK := lh (Xfw HF3.out.rd HF3.out.size [61] (by simp))
    rw [decide_eq_true hs, if_pos hs] at HSK
    have HM := lh (HM.out.trans (if_pos hs))
    clear hs
    refine HSK.out.mono ?_
    rintro e w4 ⟨rfl, hr, hc⟩
    have HF4 := lh (HF3.out.step hr hc)
    have HO4 := lh (Xaq (fun b hb e => by have := HF3.out.rlo; omega) HF3.out.rlo HO3.out hc)
    clear hr hc HSK q0 q1 a0 a1 a2 a3 a4 a5 a6 z0 z1 z2 z3 z4 z5 z6 b0 b1 b2 b3 b4 b5 b6 f0 f1 f2 f3 f4 f5 f6
    obtain ⟨q0, q1⟩ := HF4.out.cells
    obtain ⟨a0, a1, a2, a3, a4, a5, a6, z0, z1, z2, z3, z4, z5, z6⟩ := row7 HF4.out.row
    obtain ⟨b0, b1, b2, b3, b4, b5, b6, f0, f1, f2, f3, f4, f5, f6⟩ := row7 HF4.out.res
    go_wp2_with fail
    obtain ⟨w5, hW⟩ : ∃ Z : World, Z = (w4.setCell ⟨w1.heap.size + 1, 3, none⟩ (.string (Xab x1))) := ⟨_, rfl⟩
    rw [← hW]
    have HF5 : Hid (Xaz w B R L (w1.heap.size + 1) D U 10 (Xab x1) (Xab x1) (.slice none 0 0) (.slice none 0 0) w5 (.slice none 0 0) _) := lh (by rw [hW]; exact (HF4.out.setT (Xab x1)))
    have HWS5 : Hid (w5.heap.size = w4.heap.size) := lh (by rw [hW]; simp [World.setCell])
    have HO5 : Hid (Xaf w5 (fun b => (w1.heap.size + 1 + 1) ≤ b) (w1.heap.size + 1 + 1) (.slice none 0 0) []) := lh (by rw [hW]; exact (Xbr (fun b hb => hb) (by omega) HO4.out))
    clear hW q0 q1 a0 a1 a2 a3 a4 a5 a6 z0 z1 z2 z3 z4 z5 z6 b0 b1 b2 b3 b4 b5 b6 f0 f1 f2 f3 f4 f5 f6
    obtain ⟨q0, q1⟩ := HF5.out.cells
    obtain ⟨a0, a1, a2, a3, a4, a5, a6, z0, z1, z2, z3, z4, z5, z6⟩ := row7 HF5.out.row
    obtain ⟨b0, b1, b2, b3, b4, b5, b6, f0, f1, f2, f3, f4, f5, f6⟩ := row7 HF5.out.res
    refine (Xcr HF5.out.rd HF5.out.size).mono ?_
    rintro e w6 hp
    cases hx : Xbo L u2.tail with
    | bad p c =>
      have HM := lh (HM.out.trans (Xam hx))
      rw [hx] at hp
      obtain ⟨rfl, hc⟩ := hp
      have HC6 := lh (HF5.out.chg.up hc)
      clear hx hc
      unfold Xag
      go_wp2
      rw [HM.out]
      exact ⟨rfl, rfl, HC6.out⟩
    | ok x2 u6 =>
      have HM := lh (HM.out.trans (Xap hx))
      rw [hx] at hp
      obtain ⟨⟨v6, rfl, hv⟩, hr, hc⟩ := hp
      have HF6 := lh (HF5.out.step hr hc)
      have HO6 := lh (Xaq (fun b hb e => by have := HF5.out.rlo; omega) HF5.out.rlo HO5.out hc)
      clear hx hr hc q0 q1 a0 a1 a2 a3 a4 a5 a6 z0 z1 z2 z3 z4 z5 z6 b0 b1 b2 b3 b4 b5 b6 f0 f1 f2 f3 f4 f5 f6
      obtain ⟨q0, q1⟩ := HF6.out.cells
      obtain ⟨a0, a1, a2, a3, a4, a5, a6, z0, z1, z2, z3, z4, z5, z6⟩ := row7 HF6.out.row
      obtain ⟨b0, b1, b2, b3, b4, b5, b6, f0, f1, f2, f3, f4, f5, f6⟩ := row7 HF6.out.res
      obtain ⟨rfl, hl⟩ := hv
      have HLx2 := lh hl
      clear hl
      go_wp2_with fail
      obtain ⟨w7, hW⟩ : ∃ Z : World, Z = (w6.setCell ⟨w1.heap.size + 1, 2, none⟩ (.string (Xab x2))) := ⟨_, rfl⟩
      rw [← hW]
      have HF7 : Hid (Xaz w B R L (w1.heap.size + 1) D U 10 (Xab x2) (Xab x1) (.slice none 0 0) (.slice none 0 0) w7 (.slice none 0 0) _) := lh (by rw [hW]; exact (HF6.out.setN (Xab x2)))
      have HWS7 : Hid (w7.heap.size = w6.heap.size) := lh (by rw [hW]; simp [World.setCell])
      have HO7 : Hid (Xaf w7 (fun b => (w1.heap.size + 1 + 1) ≤ b) (w1.heap.size + 1 + 1) (.slice none 0 0) []) := lh (by rw [hW]; exact (Xbr (fun b hb => hb) (by omega) HO6.out))
      clear hW q0 q1 a0 a1 a2 a3 a4 a5 a6 z0 z1 z2 z3 z4 z5 z6 b0 b1 b2 b3 b4 b5 b6 f0 f1 f2 f3 f4 f5 f6
      obtain ⟨q0, q1⟩ := HF7.out.cells
      obtain ⟨a0, a1, a2, a3, a4, a5, a6, z0, z1, z2, z3, z4, z5, z6⟩ := row7 HF7.out.row
      obtain ⟨b0, b1, b2, b3, b4, b5, b6, f0, f1, f2, f3, f4, f5, f6⟩ := row7 HF7.out.res
      refine (HAR.out w7 u6 HF7.out.rd HF7.out.size).mono ?_
      rintro e w8 hp
      cases hx : Xgx L (Xah L n) u6 with
      | bad p c =>
        have HM := lh (HM.out.trans (Xam hx))
        rw [hx] at hp
        obtain ⟨rfl, hc⟩ := hp
        have HC8 := lh (HF7.out.chg.up hc)
        clear hx hc
        unfold Xag
        go_wp2
        rw [HM.out]
        exact ⟨rfl, rfl, HC8.out⟩
      | ok es u8 =>
        have HM := lh (HM.out.trans (Xap hx))
        rw [hx] at hp
        obtain ⟨⟨v8, rfl, hv⟩, hr, hc⟩ := hp
        have HF8 := lh (HF7.out.step hr hc)
        have HX8 : Hid (Xbb w8 (fun b => (w1.heap.size + 1 + 1) ≤ b ∧ b < w8.heap.size) es v8) := lh (Xbb.keep hv (fun _ _ => rfl) fun b hb => ⟨by have h9 := hb.1; have h8 := Xac HF7.out.row; omega, hb.2⟩)
        obtain ⟨A8, c8, hvv, -⟩ := Xbb.slice hv
        obtain ⟨m8, hm⟩ : ∃ m, m = es.length := ⟨_, rfl⟩
        rw [← hm] at hvv
        subst hvv
        clear hx hr hc hv hm q0 q1 a0 a1 a2 a3 a4 a5 a6 z0 z1 z2 z3 z4 z5 z6 b0 b1 b2 b3 b4 b5 b6 f0 f1 f2 f3 f4 f5 f6
        obtain ⟨q0, q1⟩ := HF8.out.cells
        obtain ⟨a0, a1, a2, a3, a4, a5, a6, z0, z1, z2, z3, z4, z5, z6⟩ := row7 HF8.out.row
        obtain ⟨b0, b1, b2, b3, b4, b5, b6, f0, f1, f2, f3, f4, f5, f6⟩ := row7 HF8.out.res
        go_wp2_with fail
        obtain ⟨w9, hW⟩ : ∃ Z : World, Z = (w8.setCell ⟨w1.heap.size + 1, 4, none⟩ ((.slice A8 m8 c8))) := ⟨_, rfl⟩
        rw [← hW]
        have HF9 : Hid (Xaz w B R L (w1.heap.size + 1) D U 10 (Xab x2) (Xab x1) (.slice none 0 0) (.slice none 0 0) w9 (.slice A8 m8 c8) _) := lh (by rw [hW]; exact (HF8.out.setE (.slice A8 m8 c8)))
        have HWS9 : Hid (w9.heap.size = w8.heap.size) := lh (by rw [hW]; simp [World.setCell])
        have HX9 : Hid (Xbb w9 (fun b => (w1.heap.size + 1 + 1) ≤ b ∧ b < w9.heap.size) es (.slice A8 m8 c8)) := lh (by rw [hW]; exact (Ycu (by omega) HX8.out))
        clear hW q0 q1 a0 a1 a2 a3 a4 a5 a6 z0 z1 z2 z3 z4 z5 z6 b0 b1 b2 b3 b4 b5 b6 f0 f1 f2 f3 f4 f5 f6
        obtain ⟨q0, q1⟩ := HF9.out.cells
        obtain ⟨a0, a1, a2, a3, a4, a5, a6, z0, z1, z2, z3, z4, z5, z6⟩ := row7 HF9.out.row
        obtain ⟨b0, b1, b2, b3, b4, b5, b6, f0, f1, f2, f3, f4, f5, f6⟩ := row7 HF9.out.res
        have HTN := lh (Xan HF9.out.rd HF9.out.size [[59]] (by simp) (by decide))
        rw [HWS9.out] at HTN
        refine (HTN.out).mono ?_
        rintro e w10 hp
        cases hx : Xal L [[59]] u8 with
        | bad p c =>
          have HM := lh (HM.out.trans (Xbc hx))
          rw [hx] at hp
          obtain ⟨rfl, hc⟩ := hp
          have HC10 := lh (HF9.out.chg.up hc)
          clear hx hc
          unfold Xag
          go_wp2
          rw [HM.out]
          exact ⟨rfl, rfl, HC10.out⟩
        | ok xq u10 =>
          have HM := lh (HM.out.trans (Xbi hx))
          rw [hx] at hp
          obtain ⟨⟨v10, rfl, hv⟩, hr, hc⟩ := hp
          have HF10 := lh (HF9.out.step hr hc)
          have HX10 := lh (Xxj HF9.out.rlo HX9.out hc)
          clear hx hr hc q0 q1 a0 a1 a2 a3 a4 a5 a6 z0 z1 z2 z3 z4 z5 z6 b0 b1 b2 b3 b4 b5 b6 f0 f1 f2 f3 f4 f5 f6
          obtain ⟨q0, q1⟩ := HF10.out.cells
          obtain ⟨a0, a1, a2, a3, a4, a5, a6, z0, z1, z2, z3, z4, z5, z6⟩ := row7 HF10.out.row
          obtain ⟨b0, b1, b2, b3, b4, b5, b6, f0, f1, f2, f3, f4, f5, f6⟩ := row7 HF10.out.res
          clear hv
          go_upto_region 52 with (fail)
          obtain ⟨Z, hZ⟩ : ∃ Z : World, Z = w10 := ⟨_, rfl⟩
          have HFIN := lh (HF10.out.done HX10.out (Xay.nil _ _) (Xay.nil _ _) (x := .mk 10 t.pl x2 x1 es [] []) rfl HU.out rfl rfl HLx2.out HLx1.out)
          clear hZ
          go_wp2
          refine bodyPost_ret (v := .agg #[.int .i64 10, .int .i64 U, .string (Xab x2), .string (Xab x1), (.slice A8 m8 c8), (.slice none 0 0), (.slice none 0 0)]) ?_ rfl ?_
          · clear HFIN
            simp [results, Tryz.results84, go_sem, b0, b1, b2, b3, b4, b5, b6]
          · rw [HM.out]
            exact HFIN.out
   ·
    have HSK := lh (Xfw HF3.out.rd HF3.out.size [61] (by simp))
    rw [decide_eq_false hs, if_neg hs] at HSK
    have HM := lh (HM.out.trans (if_neg hs))
    clear hs
    refine HSK.out.mono ?_
    rintro e w4 ⟨rfl, hr, hc⟩
    have HF4 := lh (HF3.out.step hr hc)
    have HO4 := lh (Xaq (fun b hb e => by have := HF3.out.rlo; omega) HF3.out.rlo HO3.out hc)
    clear hr hc HSK q0 q1 a0 a1 a2 a3 a4 a5 a6 z0 z1 z2 z3 z4 z5 z6 b0 b1 b2 b3 b4 b5 b6 f0 f1 f2 f3 f4 f5 f6
    obtain ⟨q0, q1⟩ := HF4.out.cells
    obtain ⟨a0, a1, a2, a3, a4, a5, a6, z0, z1, z2, z3, z4, z5, z6⟩ := row7 HF4.out.row
    obtain ⟨b0, b1, b2, b3, b4, b5, b6, f0, f1, f2, f3, f4, f5, f6⟩ := row7 HF4.out.res
    go_wp2_with fail
    refine (HAR.out w4 u2 HF4.out.rd HF4.out.size).mono ?_
    rintro e w5 hp
    cases hx : Xgx L (Xah L n) u2 with
    | bad p c =>
      have HM := lh (HM.out.trans (Xam hx))
      rw [hx] at hp
      obtain ⟨rfl, hc⟩ := hp
      have HC5 := lh (HF4.out.chg.up hc)
      clear hx hc
      unfold Xag
      go_wp2
      rw [HM.out]
      exact ⟨rfl, rfl, HC5.out⟩
    | ok es u5 =>
      have HM := lh (HM.out.trans (Xap hx))
      rw [hx] at hp
      obtain ⟨⟨v5, rfl, hv⟩, hr, hc⟩ := hp
      have HF5 := lh (HF4.out.step hr hc)
      have HX5 : Hid (Xbb w5 (fun b => (w1.heap.size + 1 + 1) ≤ b ∧ b < w5.heap.size) es v5) := lh (Xbb.keep hv (fun _ _ => rfl) fun b hb => ⟨by have h9 := hb.1; have h8 := Xac HF4.out.row; omega, hb.2⟩)
      obtain ⟨A5, c5, hvv, -⟩ := Xbb.slice hv
      obtain ⟨m5, hm⟩ : ∃ m, m = es.length := ⟨_, rfl⟩
      rw [← hm] at hvv
      subst hvv
      clear hx hr hc hv hm q0 q1 a0 a1 a2 a3 a4 a5 a6 z0 z1 z2 z3 z4 z5 z6 b0 b1 b2 b3 b4 b5 b6 f0 f1 f2 f3 f4 f5 f6
      obtain ⟨q0, q1⟩ := HF5.out.cells
      obtain ⟨a0, a1, a2, a3, a4, a5, a6, z0, z1, z2, z3, z4, z5, z6⟩ := row7 HF5.out.row
      obtain ⟨b0, b1, b2, b3, b4, b5, b6, f0, f1, f2, f3, f4, f5, f6⟩ := row7 HF5.out.res
      go_wp2_with fail
      obtain ⟨w6, hW⟩ : ∃ Z : World, Z = (w5.setCell ⟨w1.heap.size + 1, 4, none⟩ ((.slice A5 m5 c5))) := ⟨_, rfl⟩
      rw [← hW]
      have HF6 : Hid (Xaz w B R L (w1.heap.size + 1) D U 10 (Xab x1) ⟨#[]⟩ (.slice none 0 0) (.slice none 0 0) w6 (.slice A5 m5 c5) _) := lh (by rw [hW]; exact (HF5.out.setE (.slice A5 m5 c5)))
      have HWS6 : Hid (w6.heap.size = w5.heap.size) := lh (by rw [hW]; simp [World.setCell])
      have HX6 : Hid (Xbb w6 (fun b => (w1.heap.size + 1 + 1) ≤ b ∧ b < w6.heap.size) es (.slice A5 m5 c5)) := lh (by rw [hW]; exact (Ycu (by omega) HX5.out))
      clear hW q0 q1 a0 a1 a2 a3 a4 a5 a6 z0 z1 z2 z3 z4 z5 z6 b0 b1 b2 b3 b4 b5 b6 f0 f1 f2 f3 f4 f5 f6
      obtain ⟨q0, q1⟩ := HF6.out.cells
      obtain ⟨a0, a1, a2, a3, a4, a5, a6, z0, z1, z2, z3, z4, z5, z6⟩ := row7 HF6.out.row
      obtain ⟨b0, b1, b2, b3, b4, b5, b6, f0, f1, f2, f3, f4, f5, f6⟩ := row7 HF6.out.res
      have HTN := lh (Xan HF6.out.rd HF6.out.size [[59]] (by simp) (by decide))
      rw [HWS6.out] at HTN
      refine (HTN.out).mono ?_
      rintro e w7 hp
      cases hx : Xal L [[59]] u5 with
      | bad p c =>
        have HM := lh (HM.out.trans (Xbc hx))
        rw [hx] at hp
        obtain ⟨rfl, hc⟩ := hp
        have HC7 := lh (HF6.out.chg.up hc)
        clear hx hc
        unfold Xag
        go_wp2
        rw [HM.out]
        exact ⟨rfl, rfl, HC7.out⟩
      | ok xq u7 =>
        have HM := lh (HM.out.trans (Xbi hx))
        rw [hx] at hp
        obtain ⟨⟨v7, rfl, hv⟩, hr, hc⟩ := hp
        have HF7 := lh (HF6.out.step hr hc)
        have HX7 := lh (Xxj HF6.out.rlo HX6.out hc)
        clear hx hr hc q0 q1 a0 a1 a2 a3 a4 a5 a6 z0 z1 z2 z3 z4 z5 z6 b0 b1 b2 b3 b4 b5 b6 f0 f1 f2 f3 f4 f5 f6
        obtain ⟨q0, q1⟩ := HF7.out.cells
        obtain ⟨a0, a1, a2, a3, a4, a5, a6, z0, z1, z2, z3, z4, z5, z6⟩ := row7 HF7.out.row
        obtain ⟨b0, b1, b2, b3, b4, b5, b6, f0, f1, f2, f3, f4, f5, f6⟩ := row7 HF7.out.res
        clear hv
        go_upto_region 52 with (fail)
        obtain ⟨Z, hZ⟩ : ∃ Z : World, Z = w7 := ⟨_, rfl⟩
        have HFIN := lh (HF7.out.done HX7.out (Xay.nil _ _) (Xay.nil _ _) (x := .mk 10 t.pl x1 [] es [] []) rfl HU.out rfl rfl HLx1.out (Nat.zero_le _))
        clear hZ
        go_wp2
        refine bodyPost_ret (v := .agg #[.int .i64 10, .int .i64 U, .string (Xab x1), .string ⟨#[]⟩, (.slice A5 m5 c5), (.slice none 0 0), (.slice none 0 0)]) ?_ rfl ?_
        · clear HFIN
          simp [results, Tryz.results84, go_sem, b0, b1, b2, b3, b4, b5, b6]
        · rw [HM.out]
          exact HFIN.out
set_option maxRecDepth 100000 in
set_option maxHeartbeats 4000000 in
theorem Xwn {w : World} {B R L n : Nat} {t : Tok} {r : List Tok} (h : RdAt w B R L (t :: r)) (hB : B ≤ w.heap.size) (D : Int) (hD0 : 0 ≤ D) (hD1 : D ≤ 24)
  (hE : ∀ (w : World) (us : List Tok), RdAt w B R L us → B ≤ w.heap.size → Calls Tryz.prog 110 #[.pointer (some ⟨R, 0, none⟩), .int .i64 (D + 1)] w (Xaj (ExB w.heap.size) w B R L (Xah L n us))) (ht : t.text = [114, 101, 116, 117, 114, 110])
  {T : Rd Sm} (hM : T = if tx r = [59] then endM L (.mk 11 t.pl [] [] [] [] []) r else (Xah L n r).bind fun v r2 => endM L (.mk 11 t.pl [] [] [v] [] []) r2) : Calls Tryz.prog 84 #[.pointer (some ⟨R, 0, none⟩), .int .i64 D] w (Xaj (SmB w.heap.size) w B R L T) := by
 have HHR := lh h
 obtain ⟨X, hX⟩ : ∃ X : World, X = ((w.alloc (.cells #[.pointer (some ⟨R, 0, none⟩)] 52)).alloc (.cells #[.int .i64 D] 3)).alloc (.cells #[.int .i64 0, .int .i64 0, .string ⟨#[]⟩, .string ⟨#[]⟩, .slice none 0 0, .slice none 0 0, .slice none 0 0] 68) := ⟨_, rfl⟩
 have hbX : Below w.heap.size w X := by rw [hX]; exact ((Xae _ _).alloc (by simp) _).alloc (by simp; omega) _
 have hx0 : X.cell? ⟨w.heap.size, 0, none⟩ = some (.pointer (some ⟨R, 0, none⟩)) := by
  rw [hX]
  have h0 : (w.alloc (.cells #[.pointer (some ⟨R, 0, none⟩)] 52)).cell? ⟨w.heap.size, 0, none⟩ = some (.pointer (some ⟨R, 0, none⟩)) := by
   rw [cell_of_row _ _ 0 _ _ (0, 0) (heap_alloc_new w _)]; rfl
  exact Xaa (Xaa h0 _) _
 have HP := lh (Xan (h.below' hB hbX) (Nat.le_trans hB hbX.size) [[118, 97, 114], [115, 101, 116], [105, 102], [119, 104, 105, 108, 101], [108, 111, 99, 107], [117, 110, 108, 111, 99, 107], [115, 101, 110, 100], [114, 101, 99, 118], [111, 117, 116], [99, 97, 108, 108], [114, 101, 116, 117, 114, 110]] (by simp) (by decide))
 have HTK : Hid (Xal L [[118, 97, 114], [115, 101, 116], [105, 102], [119, 104, 105, 108, 101], [108, 111, 99, 107], [117, 110, 108, 111, 99, 107], [115, 101, 110, 100], [114, 101, 99, 118], [111, 117, 116], [99, 97, 108, 108], [114, 101, 116, 117, 114, 110]] (t :: r) = .ok t r) := lh (by rw [Xal, if_pos (by rw [ht]; decide)])
 rw [HTK.out, show X.heap.size = w.heap.size + 1 + 1 + 1 by rw [hX]; simp] at HP
 obtain ⟨K, hK⟩ : ∃ K : Int, K = (t.kind : Nat) := ⟨_, rfl⟩
 obtain ⟨S, hS⟩ : ∃ S, S = Xab t.text := ⟨_, rfl⟩
 obtain ⟨U, hU⟩ : ∃ U : Int, U = (t.pl : Nat) := ⟨_, rfl⟩
 have HTV : Hid (∀ v, TokV X t v → v = .agg #[.int .i64 K, .string S, .int .i64 U]) := lh fun v hv => by rw [hK, hS, hU]; exact hv.1
 have HX := lh hX
 have HB := lh hB
 have HRW := lh (show R < w.heap.size by have := h.lt; omega)
 have HU := lh hU
 have HE := lh hE
 have HM := lh hM
 have hwr : IntKind.i64.wrap (D + 1) = D + 1 := IntWalk.i64_in _ ⟨by omega, by omega⟩
 have hfT := Xdn
 have hst : S.toList = [114, 101, 116, 117, 114, 110] := by rw [hS, Xad, ht]
 clear h hB hbX hU hX hE hS hK hM ht 
 go_enter Tryz.func84, Tryz.ntmps84
 go_wp2_with fail
 rw [← HX.out]
 refine HP.out.mono ?_
 rintro e w1 ⟨⟨v1, rfl, hv1⟩, hr, hc⟩
 obtain rfl := HTV.out _ hv1
 have HR1 := lh hr
 have HC1 := lh hc
 clear hr hc hx0 hv1 HP HTK HTV
 go_upto_region 4 with (fail)
 obtain ⟨Y, hY⟩ : ∃ Y : World, Y = (w1.alloc (.cells #[.int .i64 K, .string S, .int .i64 U] 76)).alloc (.cells #[.int .i64 0, .int .i64 U, .string ⟨#[]⟩, .string ⟨#[]⟩, .slice none 0 0, .slice none 0 0, .slice none 0 0] 68) := ⟨_, rfl⟩
 rw [← hY]
 obtain ⟨hf, ht0⟩ := Xdv HB.out HRW.out HX.out HR1.out HC1.out _ hY
 obtain ⟨k0, k1, k2, -⟩ := row3 ht0
 have HF0 := lh hf
 have HO0 : Hid (Xaf Y (fun b => (w1.heap.size + 1 + 1) ≤ b) (w1.heap.size + 1 + 1) (.slice none 0 0) []) := lh (Xaf.nil _ _ _)
 have hn0 : ¬ w.heap.size = w1.heap.size + 1 := by have := hf.lo; omega
 have hn0' : ¬ w1.heap.size + 1 = w.heap.size := fun e => hn0 e.symm
 have hn1 : ¬ w.heap.size = w1.heap.size := by have := hf.lo; omega
 have hn1' : ¬ w1.heap.size = w.heap.size := fun e => hn1 e.symm
 clear hf ht0 hY
 obtain ⟨q0, q1⟩ := HF0.out.cells
 obtain ⟨a0, a1, a2, a3, a4, a5, a6, z0, z1, z2, z3, z4, z5, z6⟩ := row7 HF0.out.row
 obtain ⟨b0, b1, b2, b3, b4, b5, b6, f0, f1, f2, f3, f4, f5, f6⟩ := row7 HF0.out.res
 go_wp2_with fail
 obtain ⟨w2, hW⟩ : ∃ Z : World, Z = (Y.setCell ⟨w1.heap.size + 1, 0, none⟩ (.int .i64 11)) := ⟨_, rfl⟩
 rw [← hW]
 have HF2 : Hid (Xaz w B R L (w1.heap.size + 1) D U 11 ⟨#[]⟩ ⟨#[]⟩ (.slice none 0 0) (.slice none 0 0) w2 (.slice none 0 0) _) := lh (by rw [hW]; exact (HF0.out.setK 11))
 have HWS2 : Hid (w2.heap.size = Y.heap.size) := lh (by rw [hW]; simp [World.setCell])
 have HO2 : Hid (Xaf w2 (fun b => (w1.heap.size + 1 + 1) ≤ b) (w1.heap.size + 1 + 1) (.slice none 0 0) []) := lh (by rw [hW]; exact (Xbr (fun b hb => hb) (by omega) HO0.out))
 clear hW q0 q1 a0 a1 a2 a3 a4 a5 a6 z0 z1 z2 z3 z4 z5 z6 b0 b1 b2 b3 b4 b5 b6 f0 f1 f2 f3 f4 f5 f6
 obtain ⟨q0, q1⟩ := HF2.out.cells
 obtain ⟨a0, a1, a2, a3, a4, a5, a6, z0, z1, z2, z3, z4, z5, z6⟩ := row7 HF2.out.row
 obtain ⟨b0, b1, b2, b3, b4, b5, b6, f0, f1, f2, f3, f4, f5, f6⟩ := row7 HF2.out.res
 obtain ⟨K2, hK2⟩ : ∃ K : Int, K = (kd r : Nat) := ⟨_, rfl⟩
 obtain ⟨S2, hS2⟩ : ∃ S, S = Xab (tx r) := ⟨_, rfl⟩
 obtain ⟨P2, hP2⟩ : ∃ P : Int, P = (plc L r : Nat) := ⟨_, rfl⟩
 have HNX := lh (Xeg HF2.out.rd)
 rw [← hK2, ← hS2, ← hP2] at HNX
 clear hK2 hP2
 by_cases hs : tx r = [59]
 ·
  have s1 : (S2.toList == [59]) = true := by rw [hS2, Xad]; rw [hs]; rfl
  have s2 : (S2.toList != [59]) = false := by simp only [bne, s1]; rfl
  have HM := lh (HM.out.trans (if_pos hs))
  clear hS2 hs
  refine HNX.out.mono ?_
  rintro e w3 ⟨rfl, hb⟩
  have HF3 := lh (HF2.out.step (HF2.out.rd.below' HF2.out.size hb) (Chg.of_below hb))
  have HO3 := lh (Xaq (fun b hb e => by have := HF2.out.rlo; omega) HF2.out.rlo HO2.out (Chg.of_below hb))
  clear hb HNX q0 q1 a0 a1 a2 a3 a4 a5 a6 z0 z1 z2 z3 z4 z5 z6 b0 b1 b2 b3 b4 b5 b6 f0 f1 f2 f3 f4 f5 f6
  obtain ⟨q0, q1⟩ := HF3.out.cells
  obtain ⟨a0, a1, a2, a3, a4, a5, a6, z0, z1, z2, z3, z4, z5, z6⟩ := row7 HF3.out.row
  obtain ⟨b0, b1, b2, b3, b4, b5, b6, f0, f1, f2, f3, f4, f5, f6⟩ := row7 HF3.out.res
  go_wp2_with fail
  refine (Xan HF3.out.rd HF3.out.size [[59]] (by simp) (by decide)).mono ?_
  rintro e w4 hp
  cases hx : Xal L [[59]] r with
  | bad p c =>
    have HM := lh (HM.out.trans (Xbc hx))
    rw [hx] at hp
    obtain ⟨rfl, hc⟩ := hp
    have HC4 := lh (HF3.out.chg.up hc)
    clear hx hc
    unfold Xag
    go_wp2
    rw [HM.out]
    exact ⟨rfl, rfl, HC4.out⟩
  | ok xq u4 =>
    have HM := lh (HM.out.trans (Xbi hx))
    rw [hx] at hp
    obtain ⟨⟨v4, rfl, hv⟩, hr, hc⟩ := hp
    have HF4 := lh (HF3.out.step hr hc)
    have HO4 := lh (Xaq (fun b hb e => by have := HF3.out.rlo; omega) HF3.out.rlo HO3.out hc)
    clear hx hr hc q0 q1 a0 a1 a2 a3 a4 a5 a6 z0 z1 z2 z3 z4 z5 z6 b0 b1 b2 b3 b4 b5 b6 f0 f1 f2 f3 f4 f5 f6
    obtain ⟨q0, q1⟩ := HF4.out.cells
    obtain ⟨a0, a1, a2, a3, a4, a5, a6, z0, z1, z2, z3, z4, z5, z6⟩ := row7 HF4.out.row
    obtain ⟨b0, b1, b2, b3, b4, b5, b6, f0, f1, f2, f3, f4, f5, f6⟩ := row7 HF4.out.res
    clear hv
    go_upto_region 52 with (fail)
    obtain ⟨Z, hZ⟩ : ∃ Z : World, Z = w4 := ⟨_, rfl⟩
    have HFIN := lh (HF4.out.done (Xhf HO4.out) (Xay.nil _ _) (Xay.nil _ _) (x := .mk 11 t.pl [] [] [] [] []) rfl HU.out rfl rfl (Nat.zero_le _) (Nat.zero_le _))
    clear hZ
    go_wp2
    refine bodyPost_ret (v := .agg #[.int .i64 11, .int .i64 U, .string ⟨#[]⟩, .string ⟨#[]⟩, (.slice none 0 0), (.slice none 0 0), (.slice none 0 0)]) ?_ rfl ?_
    · clear HFIN
      simp [results, Tryz.results84, go_sem, b0, b1, b2, b3, b4, b5, b6]
    · rw [HM.out]
      exact HFIN.out
 ·
  have s1 : (S2.toList == [59]) = false := by rw [hS2, Xad]; exact beq_eq_false_iff_ne.2 hs
  have s2 : (S2.toList != [59]) = true := by simp only [bne, s1]; rfl
  have HM := lh (HM.out.trans (if_neg hs))
  clear hS2 hs
  refine HNX.out.mono ?_
  rintro e w3 ⟨rfl, hb⟩
  have HF3 := lh (HF2.out.step (HF2.out.rd.below' HF2.out.size hb) (Chg.of_below hb))
  have HO3 := lh (Xaq (fun b hb e => by have := HF2.out.rlo; omega) HF2.out.rlo HO2.out (Chg.of_below hb))
  clear hb HNX q0 q1 a0 a1 a2 a3 a4 a5 a6 z0 z1 z2 z3 z4 z5 z6 b0 b1 b2 b3 b4 b5 b6 f0 f1 f2 f3 f4 f5 f6
  obtain ⟨q0, q1⟩ := HF3.out.cells
  obtain ⟨a0, a1, a2, a3, a4, a5, a6, z0, z1, z2, z3, z4, z5, z6⟩ := row7 HF3.out.row
  obtain ⟨b0, b1, b2, b3, b4, b5, b6, f0, f1, f2, f3, f4, f5, f6⟩ := row7 HF3.out.res
  go_wp2_with fail
  refine (Xgp (Xaz.ok HF3.out.lo HF3.out.hB) HF3.out HO3.out (by simp) hD0 hD1 HE.out).mono ?_
  rintro e w4 hp
  cases hx : Xah L n r with
  | bad p c =>
    have HM := lh (HM.out.trans (Xam hx))
    rw [hx] at hp
    obtain ⟨rfl, hc⟩ := hp
    have HC4 := lh hc
    clear hx hc
    unfold Xag
    go_wp2
    rw [HM.out]
    exact ⟨rfl, rfl, HC4.out⟩
  | ok y1 u4 =>
    have HM := lh (HM.out.trans (Xap hx))
    rw [hx] at hp
    obtain ⟨rfl, A4, m4, c4, hf, ho⟩ := hp
    have HF4 := lh hf
    have HO4 := lh ho
    clear hx hf ho q0 q1 a0 a1 a2 a3 a4 a5 a6 z0 z1 z2 z3 z4 z5 z6 b0 b1 b2 b3 b4 b5 b6 f0 f1 f2 f3 f4 f5 f6
    obtain ⟨q0, q1⟩ := HF4.out.cells
    obtain ⟨a0, a1, a2, a3, a4, a5, a6, z0, z1, z2, z3, z4, z5, z6⟩ := row7 HF4.out.row
    obtain ⟨b0, b1, b2, b3, b4, b5, b6, f0, f1, f2, f3, f4, f5, f6⟩ := row7 HF4.out.res
    go_wp2_with fail
    refine (Xan HF4.out.rd HF4.out.size [[59]] (by simp) (by decide)).mono ?_
    rintro e w5 hp
    cases hx : Xal L [[59]] u4 with
    | bad p c =>
      have HM := lh (HM.out.trans (Xbc hx))
      rw [hx] at hp
      obtain ⟨rfl, hc⟩ := hp
      have HC5 := lh (HF4.out.chg.up hc)
      clear hx hc
      unfold Xag
      go_wp2
      rw [HM.out]
      exact ⟨rfl, rfl, HC5.out⟩
    | ok xq u5 =>
      have HM := lh (HM.out.trans (Xbi hx))
      rw [hx] at hp
      obtain ⟨⟨v5, rfl, hv⟩, hr, hc⟩ := hp
      have HF5 := lh (HF4.out.step hr hc)
      have HO5 := lh (Xaq (fun b hb e => by have := HF4.out.rlo; omega) HF4.out.rlo HO4.out hc)
      clear hx hr hc q0 q1 a0 a1 a2 a3 a4 a5 a6 z0 z1 z2 z3 z4 z5 z6 b0 b1 b2 b3 b4 b5 b6 f0 f1 f2 f3 f4 f5 f6
      obtain ⟨q0, q1⟩ := HF5.out.cells
      obtain ⟨a0, a1, a2, a3, a4, a5, a6, z0, z1, z2, z3, z4, z5, z6⟩ := row7 HF5.out.row
      obtain ⟨b0, b1, b2, b3, b4, b5, b6, f0, f1, f2, f3, f4, f5, f6⟩ := row7 HF5.out.res
      clear hv
      go_upto_region 52 with (fail)
      obtain ⟨Z, hZ⟩ : ∃ Z : World, Z = w5 := ⟨_, rfl⟩
      have HFIN := lh (HF5.out.done (Xhf HO5.out) (Xay.nil _ _) (Xay.nil _ _) (x := .mk 11 t.pl [] [] [y1] [] []) rfl HU.out rfl rfl (Nat.zero_le _) (Nat.zero_le _))
      clear hZ
      go_wp2
      refine bodyPost_ret (v := .agg #[.int .i64 11, .int .i64 U, .string ⟨#[]⟩, .string ⟨#[]⟩, (.slice A4 m4 c4), (.slice none 0 0), (.slice none 0 0)]) ?_ rfl ?_
      · clear HFIN
        simp [results, Tryz.results84, go_sem, b0, b1, b2, b3, b4, b5, b6]
      · rw [HM.out]
        exact HFIN.out
end Go.Proofs.YtbckeljbpknbdaaGreatDoor
