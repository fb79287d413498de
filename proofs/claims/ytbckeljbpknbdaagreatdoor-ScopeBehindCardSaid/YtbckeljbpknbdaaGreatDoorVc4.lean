/- Fq -/
import Derived.Test.YtbckeljbpknbdaaGreatDoorVc9
set_option linter.unusedVariables false
set_option linter.unusedSimpArgs false
namespace Go.Proofs.YtbckeljbpknbdaaGreatDoor
open Go.RowKit
set_option maxRecDepth 100000 in
set_option maxHeartbeats 1000000 in
theorem Yfy {w : World} {B R L n : Nat} {t : Tok} {r : List Tok} (h : RdAt w B R L (t :: r)) (hB : B ≤ w.heap.size) (D : Int) (hD0 : 0 ≤ D) (hD1 : D ≤ 24)
  (hE : ∀ (w : World) (us : List Tok), RdAt w B R L us → B ≤ w.heap.size → Calls Tryz.prog 110 #[.pointer (some ⟨R, 0, none⟩), .int .i64 (D + 1)] w (Xaj (ExB w.heap.size) w B R L (Xah L n us))) (ht : t.text = [108, 111, 99, 107])
  {T : Rd Sm} (hM : T = (Xbo L r).bind fun n r2 => endM L (.mk 5 t.pl n [] [] [] []) r2) : Calls Tryz.prog 84 #[.pointer (some ⟨R, 0, none⟩), .int .i64 D] w (Xaj (SmB w.heap.size) w B R L T) := by
 have HHR := lh h
 obtain ⟨X, hX⟩ : ∃ X : World, X = ((w.alloc (.cells #[.pointer (some ⟨R, 0, none⟩)] 52)).alloc (.cells #[.int .i64 D] 3)).alloc (.cells #[.int .i64 0, .int .i64 0, .string ⟨#[]⟩, .string ⟨#[]⟩, .slice none 0 0, .slice none 0 0, .slice none 0 0] 68) := ⟨_, rfl⟩
 have hbX : Below w.heap.size w X := by rw [hX]; exact ((Xae _ _).alloc (by simp) _).alloc (by simp; omega) _
 have hx0 : X.cell? ⟨w.heap.size, 0, none⟩ = some (.pointer (some ⟨R, 0, none⟩)) := by
  rw [hX]
  have h0 : (w.alloc (.cells #[.pointer (some ⟨R, 0, none⟩)] 52)).cell? ⟨w.heap.size, 0, none⟩ = some (.pointer (some ⟨R, 0, none⟩)) := by
   rw [cell_of_row _ _ 0 _ _ (0, 0) (heap_alloc_new w _)]; rfl
  exact Xaa (Xaa h0 _) _
 have HP := lh (Xan (h.below' hB hbX) (Nat.le_trans hB hbX.size) [[118, 97, 114], [115, 101, 116], [105, 102], [119, 104, 105, 108, 101], [108, 111, 99, 107], [117, 110, 108, 111, 99, 107], [115, 101, 110, 100], [114, 101, 99, 118], [111, 117, 116], [99, 97, 108, 108], [114, 101, 116, 117, 114, 110]] (by simp) (by decide))
 have HTK : Hid (Xal L [[118, 97, 114], [115, 101, 116], [105, 102], [119, 104, 105, 108, 101], [108, 111, 99, 107], [117, 110, 108, 111, 99, 107], [115, 101, 110, 100], [114, 101, 99, 118], [111, 117, 116], [99, 97, 108, 108], [114, 101, 116, 117, 114, 110]] (t :: r) = .ok t r) := lh (by rw [Xal, if_pos (by rw [ht]; decide)])
 rw [HTK.out, show X.heap.size = w.heap.size + 1 + 1 + 1 by rw [hX]; simp] at HP
 obtain ⟨K, hK⟩ : ∃ K : Int, K = (t.kind : Nat) := ⟨_, rfl⟩
 obtain ⟨S, hS⟩ : ∃ S, S = Xab t.text := ⟨_, rfl⟩
 obtain ⟨U, hU⟩ : ∃ U : Int, U = (t.pl : Nat) := ⟨_, rfl⟩
 have HTV : Hid (∀ v, TokV X t v → v = .agg #[.int .i64 K, .string S, .int .i64 U]) := lh fun v hv => by rw [hK, hS, hU]; exact hv.1
 have HX := lh hX
 have HB := lh hB
 have HRW := lh (show R < w.heap.size by have := h.lt; omega)
 have HU := lh hU
 have HE := lh hE
 have HM := lh hM
 have hwr : IntKind.i64.wrap (D + 1) = D + 1 := IntWalk.i64_in _ ⟨by omega, by omega⟩
 have hfT := Xdn
 have hst : S.toList = [108, 111, 99, 107] := by rw [hS, Xad, ht]
 clear h hB hbX hU hX hE hS hK hM ht 
 go_enter Tryz.func84, Tryz.ntmps84
 go_wp2_with fail
 rw [← HX.out]
 refine HP.out.mono ?_
 rintro e w1 ⟨⟨v1, rfl, hv1⟩, hr, hc⟩
 obtain rfl := HTV.out _ hv1
 have HR1 := lh hr
 have HC1 := lh hc
 clear hr hc hx0 hv1 HP HTK HTV
 go_upto_region 4 with (fail)
 obtain ⟨Y, hY⟩ : ∃ Y : World, Y = (w1.alloc (.cells #[.int .i64 K, .string S, .int .i64 U] 76)).alloc (.cells #[.int .i64 0, .int .i64 U, .string ⟨#[]⟩, .string ⟨#[]⟩, .slice none 0 0, .slice none 0 0, .slice none 0 0] 68) := ⟨_, rfl⟩
 rw [← hY]
 obtain ⟨hf, ht0⟩ := Xdv HB.out HRW.out HX.out HR1.out HC1.out _ hY
 obtain ⟨k0, k1, k2, -⟩ := row3 ht0
 have HF0 := lh hf
 have HO0 : Hid (Xaf Y (fun b => (w1.heap.size + 1 + 1) ≤ b) (w1.heap.size + 1 + 1) (.slice none 0 0) []) := lh (Xaf.nil _ _ _)
 have hn0 : ¬ w.heap.size = w1.heap.size + 1 := by have := hf.lo; omega
 have hn0' : ¬ w1.heap.size + 1 = w.heap.size := fun e => hn0 e.symm
 have hn1 : ¬ w.heap.size = w1.heap.size := by have := hf.lo; omega
 have hn1' : ¬ w1.heap.size = w.heap.size := fun e => hn1 e.symm
 clear hf ht0 hY
 obtain ⟨q0, q1⟩ := HF0.out.cells
 obtain ⟨a0, a1, a2, a3, a4, a5, a6, z0, z1, z2, z3, z4, z5, z6⟩ := row7 HF0.out.row
 obtain ⟨b0, b1, b2, b3, b4, b5, b6, f0, f1, f2, f3, f4, f5, f6⟩ := row7 HF0.out.res
 go_wp2_with fail
 refine (Xcr HF0.out.rd HF0.out.size).mono ?_
 rintro e w2 hp
 cases hx : Xbo L r with
 | bad p c =>
   have HM := lh (HM.out.trans (Xam hx))
   rw [hx] at hp
   obtain ⟨rfl, hc⟩ := hp
   have HC2 := lh (HF0.out.chg.up hc)
   clear hx hc
   unfold Xag
   go_wp2
   rw [HM.out]
   exact ⟨rfl, rfl, HC2.out⟩
 | ok x1 u2 =>
   have HM := lh (HM.out.trans (Xap hx))
   rw [hx] at hp
   obtain ⟨⟨v2, rfl, hv⟩, hr, hc⟩ := hp
   have HF2 := lh (HF0.out.step hr hc)
   have HO2 := lh (Xaq (fun b hb e => by have := HF0.out.rlo; omega) HF0.out.rlo HO0.out hc)
   clear hx hr hc q0 q1 a0 a1 a2 a3 a4 a5 a6 z0 z1 z2 z3 z4 z5 z6 b0 b1 b2 b3 b4 b5 b6 f0 f1 f2 f3 f4 f5 f6
   obtain ⟨q0, q1⟩ := HF2.out.cells
   obtain ⟨a0, a1, a2, a3, a4, a5, a6, z0, z1, z2, z3, z4, z5, z6⟩ := row7 HF2.out.row
   obtain ⟨b0, b1, b2, b3, b4, b5, b6, f0, f1, f2, f3, f4, f5, f6⟩ := row7 HF2.out.res
   obtain ⟨rfl, hl⟩ := hv
   have HLx1 := lh hl
   clear hl
   go_wp2_with fail
   obtain ⟨w3, hW⟩ : ∃ Z : World, Z = ((w2.setCell ⟨w1.heap.size + 1, 0, none⟩ (.int .i64 5)).setCell ⟨w1.heap.size + 1, 2, none⟩ (.string (Xab x1))) := ⟨_, rfl⟩
   rw [← hW]
   have HF3 : Hid (Xaz w B R L (w1.heap.size + 1) D U 5 (Xab x1) ⟨#[]⟩ (.slice none 0 0) (.slice none 0 0) w3 (.slice none 0 0) _) := lh (by rw [hW]; exact ((HF2.out.setK 5).setN (Xab x1)))
   have HWS3 : Hid (w3.heap.size = w2.heap.size) := lh (by rw [hW]; simp [World.setCell])
   have HO3 : Hid (Xaf w3 (fun b => (w1.heap.size + 1 + 1) ≤ b) (w1.heap.size + 1 + 1) (.slice none 0 0) []) := lh (by rw [hW]; exact (Xbr (fun b hb => hb) (by omega) (Xbr (fun b hb => hb) (by omega) HO2.out)))
   clear hW q0 q1 a0 a1 a2 a3 a4 a5 a6 z0 z1 z2 z3 z4 z5 z6 b0 b1 b2 b3 b4 b5 b6 f0 f1 f2 f3 f4 f5 f6
   obtain ⟨q0, q1⟩ := HF3.out.cells
   obtain ⟨a0, a1, a2, a3, a4, a5, a6, z0, z1, z2, z3, z4, z5, z6⟩ := row7 HF3.out.row
   obtain ⟨b0, b1, b2, b3, b4, b5, b6, f0, f1, f2, f3, f4, f5, f6⟩ := row7 HF3.out.res
   have HTN := lh (Xan HF3.out.rd HF3.out.size [[59]] (by simp) (by decide))
   rw [HWS3.out] at HTN
   refine (HTN.out).mono ?_
   rintro e w4 hp
   cases hx : Xal L [[59]] u2 with
   | bad p c =>
     have HM := lh (HM.out.trans (Xbc hx))
     rw [hx] at hp
     obtain ⟨rfl, hc⟩ := hp
     have HC4 := lh (HF3.out.chg.up hc)
     clear hx hc
     unfold Xag
     go_wp2
     rw [HM.out]
     exact ⟨rfl, rfl, HC4.out⟩
   | ok xq u4 =>
     have HM := lh (HM.out.trans (Xbi hx))
     rw [hx] at hp
     obtain ⟨⟨v4, rfl, hv⟩, hr, hc⟩ := hp
     have HF4 := lh (HF3.out.step hr hc)
     have HO4 := lh (Xaq (fun b hb e => by have := HF3.out.rlo; omega) HF3.out.rlo HO3.out hc)
     clear hx hr hc q0 q1 a0 a1 a2 a3 a4 a5 a6 z0 z1 z2 z3 z4 z5 z6 b0 b1 b2 b3 b4 b5 b6 f0 f1 f2 f3 f4 f5 f6
     obtain ⟨q0, q1⟩ := HF4.out.cells
     obtain ⟨a0, a1, a2, a3, a4, a5, a6, z0, z1, z2, z3, z4, z5, z6⟩ := row7 HF4.out.row
     obtain ⟨b0, b1, b2, b3, b4, b5, b6, f0, f1, f2, f3, f4, f5, f6⟩ := row7 HF4.out.res
     clear hv
     go_upto_region 52 with (fail)
     obtain ⟨Z, hZ⟩ : ∃ Z : World, Z = w4 := ⟨_, rfl⟩
     have HFIN := lh (HF4.out.done (Xhf HO4.out) (Xay.nil _ _) (Xay.nil _ _) (x := .mk 5 t.pl x1 [] [] [] []) rfl HU.out rfl rfl HLx1.out (Nat.zero_le _))
     clear hZ
     go_wp2
     refine bodyPost_ret (v := .agg #[.int .i64 5, .int .i64 U, .string (Xab x1), .string ⟨#[]⟩, (.slice none 0 0), (.slice none 0 0), (.slice none 0 0)]) ?_ rfl ?_
     · clear HFIN
       simp [results, Tryz.results84, go_sem, b0, b1, b2, b3, b4, b5, b6]
     · rw [HM.out]
       exact HFIN.out
set_option maxRecDepth 100000 in
set_option maxHeartbeats 1000000 in
theorem Xwo {w : World} {B R L n : Nat} {t : Tok} {r : List Tok} (h : RdAt w B R L (t :: r)) (hB : B ≤ w.heap.size) (D : Int) (hD0 : 0 ≤ D) (hD1 : D ≤ 24)
  (hE : ∀ (w : World) (us : List Tok), RdAt w B R L us → B ≤ w.heap.size → Calls Tryz.prog 110 #[.pointer (some ⟨R, 0, none⟩), .int .i64 (D + 1)] w (Xaj (ExB w.heap.size) w B R L (Xah L n us))) (ht : t.text = [117, 110, 108, 111, 99, 107])
  {T : Rd Sm} (hM : T = (Xbo L r).bind fun n r2 => endM L (.mk 6 t.pl n [] [] [] []) r2) : Calls Tryz.prog 84 #[.pointer (some ⟨R, 0, none⟩), .int .i64 D] w (Xaj (SmB w.heap.size) w B R L T) := by
 have HHR := lh h
 obtain ⟨X, hX⟩ : ∃ X : World, X = ((w.alloc (.cells #[.pointer (some ⟨R, 0, none⟩)] 52)).alloc (.cells #[.int .i64 D] 3)).alloc (.cells #[.int .i64 0, .int .i64 0, .string ⟨#[]⟩, .string ⟨#[]⟩, .slice none 0 0, .slice none 0 0, .slice none 0 0] 68) := ⟨_, rfl⟩
 have hbX : Below w.heap.size w X := by rw [hX]; exact ((Xae _ _).alloc (by simp) _).alloc (by simp; omega) _
 have hx0 : X.cell? ⟨w.heap.size, 0, none⟩ = some (.pointer (some ⟨R, 0, none⟩)) := by
  rw [hX]
  have h0 : (w.alloc (.cells #[.pointer (some ⟨R, 0, none⟩)] 52)).cell? ⟨w.heap.size, 0, none⟩ = some (.pointer (some ⟨R, 0, none⟩)) := by
   rw [cell_of_row _ _ 0 _ _ (0, 0) (heap_alloc_new w _)]; rfl
  exact Xaa (Xaa h0 _) _
 have HP := lh (Xan (h.below' hB hbX) (Nat.le_trans hB hbX.size) [[118, 97, 114], [115, 101, 116], [105, 102], [119, 104, 105, 108, 101], [108, 111, 99, 107], [117, 110, 108, 111, 99, 107], [115, 101, 110, 100], [114, 101, 99, 118], [111, 117, 116], [99, 97, 108, 108], [114, 101, 116, 117, 114, 110]] (by simp) (by decide))
 have HTK : Hid (Xal L [[118, 97, 114], [115, 101, 116], [105, 102], [119, 104, 105, 108, 101], [108, 111, 99, 107], [117, 110, 108, 111, 99, 107], [115, 101, 110, 100], [114, 101, 99, 118], [111, 117, 116], [99, 97, 108, 108], [114, 101, 116, 117, 114, 110]] (t :: r) = .ok t r) := lh (by rw [Xal, if_pos (by rw [ht]; decide)])
 rw [HTK.out, show X.heap.size = w.heap.size + 1 + 1 + 1 by rw [hX]; simp] at HP
 obtain ⟨K, hK⟩ : ∃ K : Int, K = (t.kind : Nat) := ⟨_, rfl⟩
 obtain ⟨S, hS⟩ : ∃ S, S = Xab t.text := ⟨_, rfl⟩
 obtain ⟨U, hU⟩ : ∃ U : Int, U = (t.pl : Nat) := ⟨_, rfl⟩
 have HTV : Hid (∀ v, TokV X t v → v = .agg #[.int .i64 K, .string S, .int .i64 U]) := lh fun v hv => by rw [hK, hS, hU]; exact hv.1
 have HX := lh hX
 have HB := lh hB
 have HRW := lh (show R < w.heap.size by have := h.lt; omega)
 have HU := lh hU
 have HE := lh hE
 have HM := lh hM
 have hwr : IntKind.i64.wrap (D + 1) = D + 1 := IntWalk.i64_in _ ⟨by omega, by omega⟩
 have hfT := Xdn
 have hst : S.toList = [117, 110, 108, 111, 99, 107] := by rw [hS, Xad, ht]
 clear h hB hbX hU hX hE hS hK hM ht 
 go_enter Tryz.func84, Tryz.ntmps84
 go_wp2_with fail
 rw [← HX.out]
 refine HP.out.mono ?_
 rintro e w1 ⟨⟨v1, rfl, hv1⟩, hr, hc⟩
 obtain rfl := HTV.out _ hv1
 have HR1 := lh hr
 have HC1 := lh hc
 clear hr hc hx0 hv1 HP HTK HTV
 go_upto_region 4 with (fail)
 obtain ⟨Y, hY⟩ : ∃ Y : World, Y = (w1.alloc (.cells #[.int .i64 K, .string S, .int .i64 U] 76)).alloc (.cells #[.int .i64 0, .int .i64 U, .string ⟨#[]⟩, .string ⟨#[]⟩, .slice none 0 0, .slice none 0 0, .slice none 0 0] 68) := ⟨_, rfl⟩
 rw [← hY]
 obtain ⟨hf, ht0⟩ := Xdv HB.out HRW.out HX.out HR1.out HC1.out _ hY
 obtain ⟨k0, k1, k2, -⟩ := row3 ht0
 have HF0 := lh hf
 have HO0 : Hid (Xaf Y (fun b => (w1.heap.size + 1 + 1) ≤ b) (w1.heap.size + 1 + 1) (.slice none 0 0) []) := lh (Xaf.nil _ _ _)
 have hn0 : ¬ w.heap.size = w1.heap.size + 1 := by have := hf.lo; omega
 have hn0' : ¬ w1.heap.size + 1 = w.heap.size := fun e => hn0 e.symm
 have hn1 : ¬ w.heap.size = w1.heap.size := by have := hf.lo; omega
 have hn1' : ¬ w1.heap.size = w.heap.size := fun e => hn1 e.symm
 clear hf ht0 hY
 obtain ⟨q0, q1⟩ := HF0.out.cells
 obtain ⟨a0, a1, a2, a3, a4, a5, a6, z0, z1, z2, z3, z4, z5, z6⟩ := row7 HF0.out.row
 obtain ⟨b0, b1, b2, b3, b4, b5, b6, f0, f1, f2, f3, f4, f5, f6⟩ := row7 HF0.out.res
 go_wp2_with fail
 refine (Xcr HF0.out.rd HF0.out.size).mono ?_
 rintro e w2 hp
 cases hx : Xbo L r with
 | bad p c =>
   have HM := lh (HM.out.trans (Xam hx))
   rw [hx] at hp
   obtain ⟨rfl, hc⟩ := hp
   have HC2 := lh (HF0.out.chg.up hc)
   clear hx hc
   unfold Xag
   go_wp2
   rw [HM.out]
   exact ⟨rfl, rfl, HC2.out⟩
 | ok x1 u2 =>
   have HM := lh (HM.out.trans (Xap hx))
   rw [hx] at hp
   obtain ⟨⟨v2, rfl, hv⟩, hr, hc⟩ := hp
   have HF2 := lh (HF0.out.step hr hc)
   have HO2 := lh (Xaq (fun b hb e => by have := HF0.out.rlo; omega) HF0.out.rlo HO0.out hc)
   clear hx hr hc q0 q1 a0 a1 a2 a3 a4 a5 a6 z0 z1 z2 z3 z4 z5 z6 b0 b1 b2 b3 b4 b5 b6 f0 f1 f2 f3 f4 f5 f6
   obtain ⟨q0, q1⟩ := HF2.out.cells
   obtain ⟨a0, a1, a2, a3, a4, a5, a6, z0, z1, z2, z3, z4, z5, z6⟩ := row7 HF2.out.row
   obtain ⟨b0, b1, b2, b3, b4, b5, b6, f0, f1, f2, f3, f4, f5, f6⟩ := row7 HF2.out.res
   obtain ⟨rfl, hl⟩ := hv
   have HLx1 := lh hl
   clear hl
   go_wp2_with fail
   obtain ⟨w3, hW⟩ : ∃ Z : World, Z = ((w2.setCell ⟨w1.heap.size + 1, 0, none⟩ (.int .i64 6)).setCell ⟨w1.heap.size + 1, 2, none⟩ (.string (Xab x1))) := ⟨_, rfl⟩
   rw [← hW]
   have HF3 : Hid (Xaz w B R L (w1.heap.size + 1) D U 6 (Xab x1) ⟨#[]⟩ (.slice none 0 0) (.slice none 0 0) w3 (.slice none 0 0) _) := lh (by rw [hW]; exact ((HF2.out.setK 6).setN (Xab x1)))
   have HWS3 : Hid (w3.heap.size = w2.heap.size) := lh (by rw [hW]; simp [World.setCell])
   have HO3 : Hid (Xaf w3 (fun b => (w1.heap.size + 1 + 1) ≤ b) (w1.heap.size + 1 + 1) (.slice none 0 0) []) := lh (by rw [hW]; exact (Xbr (fun b hb => hb) (by omega) (Xbr (fun b hb => hb) (by omega) HO2.out)))
   clear hW q0 q1 a0 a1 a2 a3 a4 a5 a6 z0 z1 z2 z3 z4 z5 z6 b0 b1 b2 b3 b4 b5 b6 f0 f1 f2 f3 f4 f5 f6
   obtain ⟨q0, q1⟩ := HF3.out.cells
   obtain ⟨a0, a1, a2, a3, a4, a5, a6, z0, z1, z2, z3, z4, z5, z6⟩ := row7 HF3.out.row
   obtain ⟨b0, b1, b2, b3, b4, b5, b6, f0, f1, f2, f3, f4, f5, f6⟩ := row7 HF3.out.res
   have HTN := lh (Xan HF3.out.rd HF3.out.size [[59]] (by simp) (by decide))
   rw [HWS3.out] at HTN
   refine (HTN.out).mono ?_
   rintro e w4 hp
   cases hx : Xal L [[59]] u2 with
   | bad p c =>
     have HM := lh (HM.out.trans (Xbc hx))
     rw [hx] at hp
     obtain ⟨rfl, hc⟩ := hp
     have HC4 := lh (HF3.out.chg.up hc)
     clear hx hc
     unfold Xag
     go_wp2
     rw [HM.out]
     exact ⟨rfl, rfl, HC4.out⟩
   | ok xq u4 =>
     have HM := lh (HM.out.trans (Xbi hx))
     rw [hx] at hp
     obtain ⟨⟨v4, rfl, hv⟩, hr, hc⟩ := hp
     have HF4 := lh (HF3.out.step hr hc)
     have HO4 := lh (Xaq (fun b hb e => by have := HF3.out.rlo; omega) HF3.out.rlo HO3.out hc)
     clear hx hr hc q0 q1 a0 a1 a2 a3 a4 a5 a6 z0 z1 z2 z3 z4 z5 z6 b0 b1 b2 b3 b4 b5 b6 f0 f1 f2 f3 f4 f5 f6
     obtain ⟨q0, q1⟩ := HF4.out.cells
     obtain ⟨a0, a1, a2, a3, a4, a5, a6, z0, z1, z2, z3, z4, z5, z6⟩ := row7 HF4.out.row
     obtain ⟨b0, b1, b2, b3, b4, b5, b6, f0, f1, f2, f3, f4, f5, f6⟩ := row7 HF4.out.res
     clear hv
     go_upto_region 52 with (fail)
     obtain ⟨Z, hZ⟩ : ∃ Z : World, Z = w4 := ⟨_, rfl⟩
     have HFIN := lh (HF4.out.done (Xhf HO4.out) (Xay.nil _ _) (Xay.nil _ _) (x := .mk 6 t.pl x1 [] [] [] []) rfl HU.out rfl rfl HLx1.out (Nat.zero_le _))
     clear hZ
     go_wp2
     refine bodyPost_ret (v := .agg #[.int .i64 6, .int .i64 U, .string (Xab x1), .string ⟨#[]⟩, (.slice none 0 0), (.slice none 0 0), (.slice none 0 0)]) ?_ rfl ?_
     · clear HFIN
       simp [results, Tryz.results84, go_sem, b0, b1, b2, b3, b4, b5, b6]
     · rw [HM.out]
       exact HFIN.out
set_option maxRecDepth 100000 in
set_option maxHeartbeats 1000000 in
theorem Yga {w : World} {B R L n : Nat} {t : Tok} {r : List Tok} (h : RdAt w B R L (t :: r)) (hB : B ≤ w.heap.size) (D : Int) (hD0 : 0 ≤ D) (hD1 : D ≤ 24)
  (hE : ∀ (w : World) (us : List Tok), RdAt w B R L us → B ≤ w.heap.size → Calls Tryz.prog 110 #[.pointer (some ⟨R, 0, none⟩), .int .i64 (D + 1)] w (Xaj (ExB w.heap.size) w B R L (Xah L n us))) (ht : t.text = [114, 101, 99, 118])
  {T : Rd Sm} (hM : T = (Xbo L r).bind fun s r2 => (Xbo L r2).bind fun y r3 => endM L (.mk 8 t.pl s y [] [] []) r3) : Calls Tryz.prog 84 #[.pointer (some ⟨R, 0, none⟩), .int .i64 D] w (Xaj (SmB w.heap.size) w B R L T) := by
 have HHR := lh h
 obtain ⟨X, hX⟩ : ∃ X : World, X = ((w.alloc (.cells #[.pointer (some ⟨R, 0, none⟩)] 52)).alloc (.cells #[.int .i64 D] 3)).alloc (.cells #[.int .i64 0, .int .i64 0, .string ⟨#[]⟩, .string ⟨#[]⟩, .slice none 0 0, .slice none 0 0, .slice none 0 0] 68) := ⟨_, rfl⟩
 have hbX : Below w.heap.size w X := by rw [hX]; exact ((Xae _ _).alloc (by simp) _).alloc (by simp; omega) _
 have hx0 : X.cell? ⟨w.heap.size, 0, none⟩ = some (.pointer (some ⟨R, 0, none⟩)) := by
  rw [hX]
  have h0 : (w.alloc (.cells #[.pointer (some ⟨R, 0, none⟩)] 52)).cell? ⟨w.heap.size, 0, none⟩ = some (.pointer (some ⟨R, 0, none⟩)) := by
   rw [cell_of_row _ _ 0 _ _ (0, 0) (heap_alloc_new w _)]; rfl
  exact Xaa (Xaa h0 _) _
 have HP := lh (Xan (h.below' hB hbX) (Nat.le_trans hB hbX.size) [[118, 97, 114], [115, 101, 116], [105, 102], [119, 104, 105, 108, 101], [108, 111, 99, 107], [117, 110, 108, 111, 99, 107], [115, 101, 110, 100], [114, 101, 99, 118], [111, 117, 116], [99, 97, 108, 108], [114, 101, 116, 117, 114, 110]] (by simp) (by decide))
 have HTK : Hid (Xal L [[118, 97, 114], [115, 101, 116], [105, 102], [119, 104, 105, 108, 101], [108, 111, 99, 107], [117, 110, 108, 111, 99, 107], [115, 101, 110, 100], [114, 101, 99, 118], [111, 117, 116], [99, 97, 108, 108], [114, 101, 116, 117, 114, 110]] (t :: r) = .ok t r) := lh (by rw [Xal, if_pos (by rw [ht]; decide)])
 rw [HTK.out, show X.heap.size = w.heap.size + 1 + 1 + 1 by rw [hX]; simp] at HP
 obtain ⟨K, hK⟩ : ∃ K : Int, K = (t.kind : Nat) := ⟨_, rfl⟩
 obtain ⟨S, hS⟩ : ∃ S, S = Xab t.text := ⟨_, rfl⟩
 obtain ⟨U, hU⟩ : ∃ U : Int, U = (t.pl : Nat) := ⟨_, rfl⟩
 have HTV : Hid (∀ v, TokV X t v → v = .agg #[.int .i64 K, .string S, .int .i64 U]) := lh fun v hv => by rw [hK, hS, hU]; exact hv.1
 have HX := lh hX
 have HB := lh hB
 have HRW := lh (show R < w.heap.size by have := h.lt; omega)
 have HU := lh hU
 have HE := lh hE
 have HM := lh hM
 have hwr : IntKind.i64.wrap (D + 1) = D + 1 := IntWalk.i64_in _ ⟨by omega, by omega⟩
 have hfT := Xdn
 have hst : S.toList = [114, 101, 99, 118] := by rw [hS, Xad, ht]
 clear h hB hbX hU hX hE hS hK hM ht 
 go_enter Tryz.func84, Tryz.ntmps84
 go_wp2_with fail
 rw [← HX.out]
 refine HP.out.mono ?_
 rintro e w1 ⟨⟨v1, rfl, hv1⟩, hr, hc⟩
 obtain rfl := HTV.out _ hv1
 have HR1 := lh hr
 have HC1 := lh hc
 clear hr hc hx0 hv1 HP HTK HTV
 go_upto_region 4 with (fail)
 obtain ⟨Y, hY⟩ : ∃ Y : World, Y = (w1.alloc (.cells #[.int .i64 K, .string S, .int .i64 U] 76)).alloc (.cells #[.int .i64 0, .int .i64 U, .string ⟨#[]⟩, .string ⟨#[]⟩, .slice none 0 0, .slice none 0 0, .slice none 0 0] 68) := ⟨_, rfl⟩
 rw [← hY]
 obtain ⟨hf, ht0⟩ := Xdv HB.out HRW.out HX.out HR1.out HC1.out _ hY
 obtain ⟨k0, k1, k2, -⟩ := row3 ht0
 have HF0 := lh hf
 have HO0 : Hid (Xaf Y (fun b => (w1.heap.size + 1 + 1) ≤ b) (w1.heap.size + 1 + 1) (.slice none 0 0) []) := lh (Xaf.nil _ _ _)
 have hn0 : ¬ w.heap.size = w1.heap.size + 1 := by have := hf.lo; omega
 have hn0' : ¬ w1.heap.size + 1 = w.heap.size := fun e => hn0 e.symm
 have hn1 : ¬ w.heap.size = w1.heap.size := by have := hf.lo; omega
 have hn1' : ¬ w1.heap.size = w.heap.size := fun e => hn1 e.symm
 clear hf ht0 hY
 obtain ⟨q0, q1⟩ := HF0.out.cells
 obtain ⟨a0, a1, a2, a3, a4, a5, a6, z0, z1, z2, z3, z4, z5, z6⟩ := row7 HF0.out.row
 obtain ⟨b0, b1, b2, b3, b4, b5, b6, f0, f1, f2, f3, f4, f5, f6⟩ := row7 HF0.out.res
 go_wp2_with fail
 refine (Xcr HF0.out.rd HF0.out.size).mono ?_
 rintro e w2 hp
 cases hx : Xbo L r with
 | bad p c =>
   have HM := lh (HM.out.trans (Xam hx))
   rw [hx] at hp
   obtain ⟨rfl, hc⟩ := hp
   have HC2 := lh (HF0.out.chg.up hc)
   clear hx hc
   unfold Xag
   go_wp2
   rw [HM.out]
   exact ⟨rfl, rfl, HC2.out⟩
 | ok x1 u2 =>
   have HM := lh (HM.out.trans (Xap hx))
   rw [hx] at hp
   obtain ⟨⟨v2, rfl, hv⟩, hr, hc⟩ := hp
   have HF2 := lh (HF0.out.step hr hc)
   have HO2 := lh (Xaq (fun b hb e => by have := HF0.out.rlo; omega) HF0.out.rlo HO0.out hc)
   clear hx hr hc q0 q1 a0 a1 a2 a3 a4 a5 a6 z0 z1 z2 z3 z4 z5 z6 b0 b1 b2 b3 b4 b5 b6 f0 f1 f2 f3 f4 f5 f6
   obtain ⟨q0, q1⟩ := HF2.out.cells
   obtain ⟨a0, a1, a2, a3, a4, a5, a6, z0, z1, z2, z3, z4, z5, z6⟩ := row7 HF2.out.row
   obtain ⟨b0, b1, b2, b3, b4, b5, b6, f0, f1, f2, f3, f4, f5, f6⟩ := row7 HF2.out.res
   obtain ⟨rfl, hl⟩ := hv
   have HLx1 := lh hl
   clear hl
   go_wp2_with fail
   obtain ⟨w3, hW⟩ : ∃ Z : World, Z = ((w2.setCell ⟨w1.heap.size + 1, 0, none⟩ (.int .i64 8)).setCell ⟨w1.heap.size + 1, 2, none⟩ (.string (Xab x1))) := ⟨_, rfl⟩
   rw [← hW]
   have HF3 : Hid (Xaz w B R L (w1.heap.size + 1) D U 8 (Xab x1) ⟨#[]⟩ (.slice none 0 0) (.slice none 0 0) w3 (.slice none 0 0) _) := lh (by rw [hW]; exact ((HF2.out.setK 8).setN (Xab x1)))
   have HWS3 : Hid (w3.heap.size = w2.heap.size) := lh (by rw [hW]; simp [World.setCell])
   have HO3 : Hid (Xaf w3 (fun b => (w1.heap.size + 1 + 1) ≤ b) (w1.heap.size + 1 + 1) (.slice none 0 0) []) := lh (by rw [hW]; exact (Xbr (fun b hb => hb) (by omega) (Xbr (fun b hb => hb) (by omega) HO2.out)))
   clear hW q0 q1 a0 a1 a2 a3 a4 a5 a6 z0 z1 z2 z3 z4 z5 z6 b0 b1 b2 b3 b4 b5 b6 f0 f1 f2 f3 f4 f5 f6
   obtain ⟨q0, q1⟩ := HF3.out.cells
   obtain ⟨a0, a1, a2, a3, a4, a5, a6, z0, z1, z2, z3, z4, z5, z6⟩ := row7 HF3.out.row
   obtain ⟨b0, b1, b2, b3, b4, b5, b6, f0, f1, f2, f3, f4, f5, f6⟩ := row7 HF3.out.res
   refine (Xcr HF3.out.rd HF3.out.size).mono ?_
   rintro e w4 hp
   cases hx : Xbo L u2 with
   | bad p c =>
     have HM := lh (HM.out.trans (Xam hx))
     rw [hx] at hp
     obtain ⟨rfl, hc⟩ := hp
     have HC4 := lh (HF3.out.chg.up hc)
     clear hx hc
     unfold Xag
     go_wp2
     rw [HM.out]
     exact ⟨rfl, rfl, HC4.out⟩
   | ok x2 u4 =>
     have HM := lh (HM.out.trans (Xap hx))
     rw [hx] at hp
     obtain ⟨⟨v4, rfl, hv⟩, hr, hc⟩ := hp
     have HF4 := lh (HF3.out.step hr hc)
     have HO4 := lh (Xaq (fun b hb e => by have := HF3.out.rlo; omega) HF3.out.rlo HO3.out hc)
     clear hx hr hc q0 q1 a0 a1 a2 a3 a4 a5 a6 z0 z1 z2 z3 z4 z5 z6 b0 b1 b2 b3 b4 b5 b6 f0 f1 f2 f3 f4 f5 f6
     obtain ⟨q0, q1⟩ := HF4.out.cells
     obtain ⟨a0, a1, a2, a3, a4, a5, a6, z0, z1, z2, z3, z4, z5, z6⟩ := row7 HF4.out.row
     obtain ⟨b0, b1, b2, b3, b4, b5, b6, f0, f1, f2, f3, f4, f5, f6⟩ := row7 HF4.out.res
     obtain ⟨rfl, hl⟩ := hv
     have HLx2 := lh hl
     clear hl
     go_wp2_with fail
     obtain ⟨w5, hW⟩ : ∃ Z : World, Z = (w4.setCell ⟨w1.heap.size + 1, 3, none⟩ (.string (Xab x2))) := ⟨_, rfl⟩
     rw [← hW]
     have HF5 : Hid (Xaz w B R L (w1.heap.size + 1) D U 8 (Xab x1) (Xab x2) (.slice none 0 0) (.slice none 0 0) w5 (.slice none 0 0) _) := lh (by rw [hW]; exact (HF4.out.setT (Xab x2)))
     have HWS5 : Hid (w5.heap.size = w4.heap.size) := lh (by rw [hW]; simp [World.setCell])
     have HO5 : Hid (Xaf w5 (fun b => (w1.heap.size + 1 + 1) ≤ b) (w1.heap.size + 1 + 1) (.slice none 0 0) []) := lh (by rw [hW]; exact (Xbr (fun b hb => hb) (by omega) HO4.out))
     clear hW q0 q1 a0 a1 a2 a3 a4 a5 a6 z0 z1 z2 z3 z4 z5 z6 b0 b1 b2 b3 b4 b5 b6 f0 f1 f2 f3 f4 f5 f6
     obtain ⟨q0, q1⟩ := HF5.out.cells
     obtain ⟨a0, a1, a2, a3, a4, a5, a6, z0, z1, z2, z3, z4, z5, z6⟩ := row7 HF5.out.row
     obtain ⟨b0, b1, b2, b3, b4, b5, b6, f0, f1, f2, f3, f4, f5, f6⟩ := row7 HF5.out.res
     have HTN := lh (Xan HF5.out.rd HF5.out.size [[59]] (by simp) (by decide))
     rw [HWS5.out] at HTN
     refine (HTN.out).mono ?_
     rintro e w6 hp
     cases hx : Xal L [[59]] u4 with
     | bad p c =>
       have HM := lh (HM.out.trans (Xbc hx))
       rw [hx] at hp
       obtain ⟨rfl, hc⟩ := hp
       have HC6 := lh (HF5.out.chg.up hc)
       clear hx hc
       unfold Xag
       go_wp2
       rw [HM.out]
       exact ⟨rfl, rfl, HC6.out⟩
     | ok xq u6 =>
       have HM := lh (HM.out.trans (Xbi hx))
       rw [hx] at hp
       obtain ⟨⟨v6, rfl, hv⟩, hr, hc⟩ := hp
       have HF6 := lh (HF5.out.step hr hc)
       have HO6 := lh (Xaq (fun b hb e => by have := HF5.out.rlo; omega) HF5.out.rlo HO5.out hc)
       clear hx hr hc q0 q1 a0 a1 a2 a3 a4 a5 a6 z0 z1 z2 z3 z4 z5 z6 b0 b1 b2 b3 b4 b5 b6 f0 f1 f2 f3 f4 f5 f6
       obtain ⟨q0, q1⟩ := HF6.out.cells
       obtain ⟨a0, a1, a2, a3, a4, a5, a6, z0, z1, z2, z3, z4, z5, z6⟩ := row7 HF6.out.row
       obtain ⟨b0, b1, b2, b3, b4, b5, b6, f0, f1, f2, f3, f4, f5, f6⟩ := row7 HF6.out.res
       clear hv
       go_upto_region 52 with (fail)
       obtain ⟨Z, hZ⟩ : ∃ Z : World, Z = w6 := ⟨_, rfl⟩
       have HFIN := lh (HF6.out.done (Xhf HO6.out) (Xay.nil _ _) (Xay.nil _ _) (x := .mk 8 t.pl x1 x2 [] [] []) rfl HU.out rfl rfl HLx1.out HLx2.out)
       clear hZ
       go_wp2
       refine bodyPost_ret (v := .agg #[.int .i64 8, .int .i64 U, .string (Xab x1), .string (Xab x2), (.slice none 0 0), (.slice none 0 0), (.slice none 0 0)]) ?_ rfl ?_
       · clear HFIN
         simp [results, Tryz.results84, go_sem, b0, b1, b2, b3, b4, b5, b6]
       · rw [HM.out]
         exact HFIN.out
end Go.Proofs.YtbckeljbpknbdaaGreatDoor
