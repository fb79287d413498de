/- Fs -/
import Derived.Test.YtbckeljbpknbdaaGreatDoorVc4
set_option linter.unusedVariables false
set_option linter.unusedSimpArgs false
namespace Go.Proofs.YtbckeljbpknbdaaGreatDoor
open Go.RowKit
theorem Xxh {L n : Nat} {us r : List Tok} {x : Ex} (h : Xah L n us = .ok x r) : 0 < n := by
 cases n with
 | zero => unfold Xah at h; split at h <;> cases h
 | succ n => exact Nat.succ_pos n
set_option maxRecDepth 100000 in
set_option maxHeartbeats 4000000 in
theorem stmt_if {w : World} {B R L n : Nat} {t : Tok} {r : List Tok} (h : RdAt w B R L (t :: r)) (hB : B ≤ w.heap.size) (D : Int) (hD0 : 0 ≤ D) (hD1 : D ≤ 24)
  (hE : ∀ (w : World) (us : List Tok), RdAt w B R L us → B ≤ w.heap.size → Calls Tryz.prog 110 #[.pointer (some ⟨R, 0, none⟩), .int .i64 (D + 1)] w (Xaj (ExB w.heap.size) w B R L (Xah L n us))) (ht : t.text = [105, 102]) (hBL : 0 < n → ∀ (w : World) (us : List Tok) (least : Nat), RdAt w B R L us → B ≤ w.heap.size → Calls Tryz.prog 57 #[.pointer (some ⟨R, 0, none⟩), .int .i64 (D + 1), .int .i64 (least : Nat)] w (Xaj (SmsB w.heap.size) w B R L (Xdp L (Xcp L n) least us)))
  {T : Rd Sm} (hM : T = (Xah L n r).bind fun c r2 => (Xdp L (Xcp L n) 0 r2).bind fun b r3 => if tx r3 = [101, 108, 115, 101] then (Xdp L (Xcp L n) 1 r3.tail).map fun l => .mk 3 t.pl [] [] [c] b l else .ok (.mk 3 t.pl [] [] [c] b []) r3) : Calls Tryz.prog 84 #[.pointer (some ⟨R, 0, none⟩), .int .i64 D] w (Xaj (SmB w.heap.size) w B R L T) := by
 have HHR := lh h
 obtain ⟨X, hX⟩ : ∃ X : World, X = ((w.alloc (.cells #[.pointer (some ⟨R, 0, none⟩)] 52)).alloc (.cells #[.int .i64 D] 3)).alloc (.cells #[.int .i64 0, .int .i64 0, .string ⟨#[]⟩, .string ⟨#[]⟩, .slice none 0 0, .slice none 0 0, .slice none 0 0] 68) := ⟨_, rfl⟩
 have hbX : Below w.heap.size w X := by rw [hX]; exact ((Xae _ _).alloc (by simp) _).alloc (by simp; omega) _
 have hx0 : X.cell? ⟨w.heap.size, 0, none⟩ = some (.pointer (some ⟨R, 0, none⟩)) := by
  rw [hX]
  have h0 : (w.alloc (.cells #[.pointer (some ⟨R, 0, none⟩)] 52)).cell? ⟨w.heap.size, 0, none⟩ = some (.pointer (some ⟨R, 0, none⟩)) := by
   rw [cell_of_row _ _ 0 _ _ (0, 0) (heap_alloc_new w _)]; rfl
  exact Xaa (Xaa h0 _) _
 have HP := lh (Xan (h.below' hB hbX) (Nat.le_trans hB hbX.size) [[118, 97, 114], [115, 101, 116], [105, 102], [119, 104, 105, 108, 101], [108, 111, 99, 107], [117, 110, 108, 111, 99, 107], [115, 101, 110, 100], [114, 101, 99, 118], [111, 117, 116], [99, 97, 108, 108], [114, 101, 116, 117, 114, 110]] (by simp) (by decide))
 have HTK : Hid (Xal L [[118, 97, 114], [115, 101, 116], [105, 102], [119, 104, 105, 108, 101], [108, 111, 99, 107], [117, 110, 108, 111, 99, 107], [115, 101, 110, 100], [114, 101, 99, 118], [111, 117, 116], [99, 97, 108, 108], [114, 101, 116, 117, 114, 110]] (t :: r) = .ok t r) := lh (by rw [Xal, if_pos (by rw [ht]; decide)])
 rw [HTK.out, show X.heap.size = w.heap.size + 1 + 1 + 1 by rw [hX]; simp] at HP
 obtain ⟨K, hK⟩ : ∃ K : Int, K = (t.kind : Nat) := ⟨_, rfl⟩
 obtain ⟨S, hS⟩ : ∃ S, S = Xab t.text := ⟨_, rfl⟩
 obtain ⟨U, hU⟩ : ∃ U : Int, U = (t.pl : Nat) := ⟨_, rfl⟩
 have HTV : Hid (∀ v, TokV X t v → v = .agg #[.int .i64 K, .string S, .int .i64 U]) := lh fun v hv => by rw [hK, hS, hU]; exact hv.1
 have HX := lh hX
 have HB := lh hB
 have HRW := lh (show R < w.heap.size by have := h.lt; omega)
 have HU := lh hU
 have HE := lh hE
 have HM := lh hM
 have hwr : IntKind.i64.wrap (D + 1) = D + 1 := IntWalk.i64_in _ ⟨by omega, by omega⟩
 have hfT := Xdn
 have hst : S.toList = [105, 102] := by rw [hS, Xad, ht]
 have HBL := lh hBL
 clear h hB hbX hU hX hE hS hK hM ht hBL
 go_enter Tryz.func84, Tryz.ntmps84
 go_wp2_with fail
 rw [← HX.out]
 refine HP.out.mono ?_
 rintro e w1 ⟨⟨v1, rfl, hv1⟩, hr, hc⟩
 obtain rfl := HTV.out _ hv1
 have HR1 := lh hr
 have HC1 := lh hc
 clear hr hc hx0 hv1 HP HTK HTV
 go_upto_region 4 with (fail)
 obtain ⟨Y, hY⟩ : ∃ Y : World, Y = (w1.alloc (.cells #[.int .i64 K, .string S, .int .i64 U] 76)).alloc (.cells #[.int .i64 0, .int .i64 U, .string ⟨#[]⟩, .string ⟨#[]⟩, .slice none 0 0, .slice none 0 0, .slice none 0 0] 68) := ⟨_, rfl⟩
 rw [← hY]
 obtain ⟨hf, ht0⟩ := Xdv HB.out HRW.out HX.out HR1.out HC1.out _ hY
 obtain ⟨k0, k1, k2, -⟩ := row3 ht0
 have HF0 := lh hf
 have HO0 : Hid (Xaf Y (fun b => (w1.heap.size + 1 + 1) ≤ b) (w1.heap.size + 1 + 1) (.slice none 0 0) []) := lh (Xaf.nil _ _ _)
 have hn0 : ¬ w.heap.size = w1.heap.size + 1 := by have := hf.lo; omega
 have hn0' : ¬ w1.heap.size + 1 = w.heap.size := fun e => hn0 e.symm
 have hn1 : ¬ w.heap.size = w1.heap.size := by have := hf.lo; omega
 have hn1' : ¬ w1.heap.size = w.heap.size := fun e => hn1 e.symm
 clear hf ht0 hY
 obtain ⟨q0, q1⟩ := HF0.out.cells
 obtain ⟨a0, a1, a2, a3, a4, a5, a6, z0, z1, z2, z3, z4, z5, z6⟩ := row7 HF0.out.row
 obtain ⟨b0, b1, b2, b3, b4, b5, b6, f0, f1, f2, f3, f4, f5, f6⟩ := row7 HF0.out.res
 go_wp2_with fail
 obtain ⟨w2, hW⟩ : ∃ Z : World, Z = (Y.setCell ⟨w1.heap.size + 1, 0, none⟩ (.int .i64 3)) := ⟨_, rfl⟩
 rw [← hW]
 have HF2 : Hid (Xaz w B R L (w1.heap.size + 1) D U 3 ⟨#[]⟩ ⟨#[]⟩ (.slice none 0 0) (.slice none 0 0) w2 (.slice none 0 0) _) := lh (by rw [hW]; exact (HF0.out.setK 3))
 have HWS2 : Hid (w2.heap.size = Y.heap.size) := lh (by rw [hW]; simp [World.setCell])
 have HO2 : Hid (Xaf w2 (fun b => (w1.heap.size + 1 + 1) ≤ b) (w1.heap.size + 1 + 1) (.slice none 0 0) []) := lh (by rw [hW]; exact (Xbr (fun b hb => hb) (by omega) HO0.out))
 clear hW q0 q1 a0 a1 a2 a3 a4 a5 a6 z0 z1 z2 z3 z4 z5 z6 b0 b1 b2 b3 b4 b5 b6 f0 f1 f2 f3 f4 f5 f6
 obtain ⟨q0, q1⟩ := HF2.out.cells
 obtain ⟨a0, a1, a2, a3, a4, a5, a6, z0, z1, z2, z3, z4, z5, z6⟩ := row7 HF2.out.row
 obtain ⟨b0, b1, b2, b3, b4, b5, b6, f0, f1, f2, f3, f4, f5, f6⟩ := row7 HF2.out.res
 refine (Xgp (Xaz.ok HF2.out.lo HF2.out.hB) HF2.out HO2.out (by simp) hD0 hD1 HE.out).mono ?_
 rintro e w3 hp
 cases hx : Xah L n r with
 | bad p c =>
   have HM := lh (HM.out.trans (Xam hx))
   rw [hx] at hp
   obtain ⟨rfl, hc⟩ := hp
   have HC3 := lh hc
   clear hx hc
   unfold Xag
   go_wp2
   rw [HM.out]
   exact ⟨rfl, rfl, HC3.out⟩
 | ok y1 u3 =>
   have HM := lh (HM.out.trans (Xap hx))
   rw [hx] at hp
   obtain ⟨rfl, A3, m3, c3, hf, ho⟩ := hp
   have HF3 := lh hf
   have HO3 := lh ho
   have HN0 : Hid (0 < n) := lh (Xxh hx)
   clear hx hf ho q0 q1 a0 a1 a2 a3 a4 a5 a6 z0 z1 z2 z3 z4 z5 z6 b0 b1 b2 b3 b4 b5 b6 f0 f1 f2 f3 f4 f5 f6
   obtain ⟨q0, q1⟩ := HF3.out.cells
   obtain ⟨a0, a1, a2, a3, a4, a5, a6, z0, z1, z2, z3, z4, z5, z6⟩ := row7 HF3.out.row
   obtain ⟨b0, b1, b2, b3, b4, b5, b6, f0, f1, f2, f3, f4, f5, f6⟩ := row7 HF3.out.res
   go_wp2_with fail
   refine (HBL.out HN0.out w3 u3 0 HF3.out.rd HF3.out.size).mono ?_
   rintro e w4 hp
   cases hx : Xdp L (Xcp L n) 0 u3 with
   | bad p c =>
     have HM := lh (HM.out.trans (Xam hx))
     rw [hx] at hp
     obtain ⟨rfl, hc⟩ := hp
     have HC4 := lh (HF3.out.chg.up hc)
     clear hx hc
     unfold Xag
     go_wp2
     rw [HM.out]
     exact ⟨rfl, rfl, HC4.out⟩
   | ok bs u4 =>
     have HM := lh (HM.out.trans (Xap hx))
     rw [hx] at hp
     obtain ⟨⟨v4, rfl, hv⟩, hr, hc⟩ := hp
     have HF4 := lh (HF3.out.step hr hc)
     have HO4 := lh (Xaq (fun b hb e => by have := HF3.out.rlo; omega) HF3.out.rlo HO3.out hc)
     have HNW4 : Hid (Xay w4 (fun b => (w1.heap.size + 1 + 1) ≤ b ∧ b < w4.heap.size) bs v4) := lh (Xay.keep hv (fun _ _ => rfl) fun b hb => ⟨by have h9 := hb.1; have h8 := Xac HF3.out.row; omega, hb.2⟩)
     obtain ⟨A4, c4, hvv, -⟩ := Xay.slice hv
     obtain ⟨m4, hm⟩ : ∃ m, m = bs.length := ⟨_, rfl⟩
     rw [← hm] at hvv
     subst hvv
     clear hx hr hc hv hm q0 q1 a0 a1 a2 a3 a4 a5 a6 z0 z1 z2 z3 z4 z5 z6 b0 b1 b2 b3 b4 b5 b6 f0 f1 f2 f3 f4 f5 f6
     obtain ⟨q0, q1⟩ := HF4.out.cells
     obtain ⟨a0, a1, a2, a3, a4, a5, a6, z0, z1, z2, z3, z4, z5, z6⟩ := row7 HF4.out.row
     obtain ⟨b0, b1, b2, b3, b4, b5, b6, f0, f1, f2, f3, f4, f5, f6⟩ := row7 HF4.out.res
     have HBD4 := HNW4
     go_wp2_with fail
     obtain ⟨w5, hW⟩ : ∃ Z : World, Z = (w4.setCell ⟨w1.heap.size + 1, 5, none⟩ ((.slice A4 m4 c4))) := ⟨_, rfl⟩
     rw [← hW]
     have HF5 : Hid (Xaz w B R L (w1.heap.size + 1) D U 3 ⟨#[]⟩ ⟨#[]⟩ (.slice A4 m4 c4) (.slice none 0 0) w5 (.slice A3 m3 c3) _) := lh (by rw [hW]; exact (HF4.out.setB (.slice A4 m4 c4)))
     have HWS5 : Hid (w5.heap.size = w4.heap.size) := lh (by rw [hW]; simp [World.setCell])
     have HO5 : Hid (Xaf w5 (fun b => (w1.heap.size + 1 + 1) ≤ b) (w1.heap.size + 1 + 1) (.slice A3 m3 c3) [y1]) := lh (by rw [hW]; exact (Xbr (fun b hb => hb) (by omega) HO4.out))
     have HBD5 : Hid (Xay w5 (fun b => (w1.heap.size + 1 + 1) ≤ b ∧ b < w5.heap.size) bs (.slice A4 m4 c4)) := lh (by rw [hW]; exact (Xil (by omega) HBD4.out))
     clear hW q0 q1 a0 a1 a2 a3 a4 a5 a6 z0 z1 z2 z3 z4 z5 z6 b0 b1 b2 b3 b4 b5 b6 f0 f1 f2 f3 f4 f5 f6
     obtain ⟨q0, q1⟩ := HF5.out.cells
     obtain ⟨a0, a1, a2, a3, a4, a5, a6, z0, z1, z2, z3, z4, z5, z6⟩ := row7 HF5.out.row
     obtain ⟨b0, b1, b2, b3, b4, b5, b6, f0, f1, f2, f3, f4, f5, f6⟩ := row7 HF5.out.res
     by_cases hs : tx u4 = [101, 108, 115, 101]
     ·
      have HSK := lh (Xfw HF5.out.rd HF5.out.size [101, 108, 115, 101] (by simp))
      rw [decide_eq_true hs, if_pos hs] at HSK
      have HM := lh (HM.out.trans (if_pos hs))
      clear hs
      refine HSK.out.mono ?_
      rintro e w6 ⟨rfl, hr, hc⟩
      have HF6 := lh (HF5.out.step hr hc)
      have HO6 := lh (Xaq (fun b hb e => by have := HF5.out.rlo; omega) HF5.out.rlo HO5.out hc)
      have HBD6 := lh (Xrp HF5.out.rlo HBD5.out hc)
      clear hr hc HSK q0 q1 a0 a1 a2 a3 a4 a5 a6 z0 z1 z2 z3 z4 z5 z6 b0 b1 b2 b3 b4 b5 b6 f0 f1 f2 f3 f4 f5 f6
      obtain ⟨q0, q1⟩ := HF6.out.cells
      obtain ⟨a0, a1, a2, a3, a4, a5, a6, z0, z1, z2, z3, z4, z5, z6⟩ := row7 HF6.out.row
      obtain ⟨b0, b1, b2, b3, b4, b5, b6, f0, f1, f2, f3, f4, f5, f6⟩ := row7 HF6.out.res
      go_wp2_with fail
      refine (HBL.out HN0.out w6 u4.tail 1 HF6.out.rd HF6.out.size).mono ?_
      rintro e w7 hp
      cases hx : Xdp L (Xcp L n) 1 u4.tail with
      | bad p c =>
        have HM := lh (HM.out.trans (Xbc hx))
        rw [hx] at hp
        obtain ⟨rfl, hc⟩ := hp
        have HC7 := lh (HF6.out.chg.up hc)
        clear hx hc
        unfold Xag
        go_wp2
        rw [HM.out]
        exact ⟨rfl, rfl, HC7.out⟩
      | ok ls u7 =>
        have HM := lh (HM.out.trans (Xbi hx))
        rw [hx] at hp
        obtain ⟨⟨v7, rfl, hv⟩, hr, hc⟩ := hp
        have HF7 := lh (HF6.out.step hr hc)
        have HO7 := lh (Xaq (fun b hb e => by have := HF6.out.rlo; omega) HF6.out.rlo HO6.out hc)
        have HBD7 := lh (Xrp HF6.out.rlo HBD6.out hc)
        have HNW7 : Hid (Xay w7 (fun b => (w1.heap.size + 1 + 1) ≤ b ∧ b < w7.heap.size) ls v7) := lh (Xay.keep hv (fun _ _ => rfl) fun b hb => ⟨by have h9 := hb.1; have h8 := Xac HF6.out.row; omega, hb.2⟩)
        obtain ⟨A7, c7, hvv, -⟩ := Xay.slice hv
        obtain ⟨m7, hm⟩ : ∃ m, m = ls.length := ⟨_, rfl⟩
        rw [← hm] at hvv
        subst hvv
        clear hx hr hc hv hm q0 q1 a0 a1 a2 a3 a4 a5 a6 z0 z1 z2 z3 z4 z5 z6 b0 b1 b2 b3 b4 b5 b6 f0 f1 f2 f3 f4 f5 f6
        obtain ⟨q0, q1⟩ := HF7.out.cells
        obtain ⟨a0, a1, a2, a3, a4, a5, a6, z0, z1, z2, z3, z4, z5, z6⟩ := row7 HF7.out.row
        obtain ⟨b0, b1, b2, b3, b4, b5, b6, f0, f1, f2, f3, f4, f5, f6⟩ := row7 HF7.out.res
        have HEL7 := HNW7
        go_upto_region 11 with (fail)
        obtain ⟨w8, hW⟩ : ∃ Z : World, Z = (w7.setCell ⟨w1.heap.size + 1, 6, none⟩ ((.slice A7 m7 c7))) := ⟨_, rfl⟩
        rw [← hW]
        have HF8 : Hid (Xaz w B R L (w1.heap.size + 1) D U 3 ⟨#[]⟩ ⟨#[]⟩ (.slice A4 m4 c4) (.slice A7 m7 c7) w8 (.slice A3 m3 c3) _) := lh (by rw [hW]; exact (HF7.out.setL (.slice A7 m7 c7)))
        have HWS8 : Hid (w8.heap.size = w7.heap.size) := lh (by rw [hW]; simp [World.setCell])
        have HO8 : Hid (Xaf w8 (fun b => (w1.heap.size + 1 + 1) ≤ b) (w1.heap.size + 1 + 1) (.slice A3 m3 c3) [y1]) := lh (by rw [hW]; exact (Xbr (fun b hb => hb) (by omega) HO7.out))
        have HBD8 : Hid (Xay w8 (fun b => (w1.heap.size + 1 + 1) ≤ b ∧ b < w8.heap.size) bs (.slice A4 m4 c4)) := lh (by rw [hW]; exact (Xil (by omega) HBD7.out))
        have HEL8 : Hid (Xay w8 (fun b => (w1.heap.size + 1 + 1) ≤ b ∧ b < w8.heap.size) ls (.slice A7 m7 c7)) := lh (by rw [hW]; exact (Xil (by omega) HEL7.out))
        clear hW q0 q1 a0 a1 a2 a3 a4 a5 a6 z0 z1 z2 z3 z4 z5 z6 b0 b1 b2 b3 b4 b5 b6 f0 f1 f2 f3 f4 f5 f6
        obtain ⟨q0, q1⟩ := HF8.out.cells
        obtain ⟨a0, a1, a2, a3, a4, a5, a6, z0, z1, z2, z3, z4, z5, z6⟩ := row7 HF8.out.row
        obtain ⟨b0, b1, b2, b3, b4, b5, b6, f0, f1, f2, f3, f4, f5, f6⟩ := row7 HF8.out.res
        obtain ⟨Z, hZ⟩ : ∃ Z : World, Z = w8 := ⟨_, rfl⟩
        have HFIN := lh (HF8.out.done (Xhf HO8.out) HBD8.out HEL8.out (x := .mk 3 t.pl [] [] [y1] bs ls) rfl HU.out rfl rfl (Nat.zero_le _) (Nat.zero_le _))
        clear hZ
        go_wp2
        refine bodyPost_ret (v := .agg #[.int .i64 3, .int .i64 U, .string ⟨#[]⟩, .string ⟨#[]⟩, (.slice A3 m3 c3), (.slice A4 m4 c4), (.slice A7 m7 c7)]) ?_ rfl ?_
        · clear HFIN
          simp [results, Tryz.results84, go_sem, b0, b1, b2, b3, b4, b5, b6]
        · rw [HM.out]
          exact HFIN.out
     ·
      have HSK := lh (Xfw HF5.out.rd HF5.out.size [101, 108, 115, 101] (by simp))
      rw [decide_eq_false hs, if_neg hs] at HSK
      have HM := lh (HM.out.trans (if_neg hs))
      clear hs
      refine HSK.out.mono ?_
      rintro e w6 ⟨rfl, hr, hc⟩
      have HF6 := lh (HF5.out.step hr hc)
      have HO6 := lh (Xaq (fun b hb e => by have := HF5.out.rlo; omega) HF5.out.rlo HO5.out hc)
      have HBD6 := lh (Xrp HF5.out.rlo HBD5.out hc)
      clear hr hc HSK q0 q1 a0 a1 a2 a3 a4 a5 a6 z0 z1 z2 z3 z4 z5 z6 b0 b1 b2 b3 b4 b5 b6 f0 f1 f2 f3 f4 f5 f6
      obtain ⟨q0, q1⟩ := HF6.out.cells
      obtain ⟨a0, a1, a2, a3, a4, a5, a6, z0, z1, z2, z3, z4, z5, z6⟩ := row7 HF6.out.row
      obtain ⟨b0, b1, b2, b3, b4, b5, b6, f0, f1, f2, f3, f4, f5, f6⟩ := row7 HF6.out.res
      go_upto_region 11 with (fail)
      obtain ⟨Z, hZ⟩ : ∃ Z : World, Z = w6 := ⟨_, rfl⟩
      have HFIN := lh (HF6.out.done (Xhf HO6.out) HBD6.out (Xay.nil _ _) (x := .mk 3 t.pl [] [] [y1] bs []) rfl HU.out rfl rfl (Nat.zero_le _) (Nat.zero_le _))
      clear hZ
      go_wp2
      refine bodyPost_ret (v := .agg #[.int .i64 3, .int .i64 U, .string ⟨#[]⟩, .string ⟨#[]⟩, (.slice A3 m3 c3), (.slice A4 m4 c4), (.slice none 0 0)]) ?_ rfl ?_
      · clear HFIN
        simp [results, Tryz.results84, go_sem, b0, b1, b2, b3, b4, b5, b6]
      · rw [HM.out]
        exact HFIN.out
set_option maxRecDepth 100000 in
set_option maxHeartbeats 4000000 in
theorem Yau {w : World} {B R L n : Nat} {t : Tok} {r : List Tok} (h : RdAt w B R L (t :: r)) (hB : B ≤ w.heap.size) (D : Int) (hD0 : 0 ≤ D) (hD1 : D ≤ 24)
  (hE : ∀ (w : World) (us : List Tok), RdAt w B R L us → B ≤ w.heap.size → Calls Tryz.prog 110 #[.pointer (some ⟨R, 0, none⟩), .int .i64 (D + 1)] w (Xaj (ExB w.heap.size) w B R L (Xah L n us))) (ht : t.text = [119, 104, 105, 108, 101]) (hBL : 0 < n → ∀ (w : World) (us : List Tok) (least : Nat), RdAt w B R L us → B ≤ w.heap.size → Calls Tryz.prog 57 #[.pointer (some ⟨R, 0, none⟩), .int .i64 (D + 1), .int .i64 (least : Nat)] w (Xaj (SmsB w.heap.size) w B R L (Xdp L (Xcp L n) least us)))
  {T : Rd Sm} (hM : T = (Xah L n r).bind fun c r2 => (Xdp L (Xcp L n) 0 r2).map fun b => .mk 4 t.pl [] [] [c] b []) : Calls Tryz.prog 84 #[.pointer (some ⟨R, 0, none⟩), .int .i64 D] w (Xaj (SmB w.heap.size) w B R L T) := by
 have HHR := lh h
 obtain ⟨X, hX⟩ : ∃ X : World, X = ((w.alloc (.cells #[.pointer (some ⟨R, 0, none⟩)] 52)).alloc (.cells #[.int .i64 D] 3)).alloc (.cells #[.int .i64 0, .int .i64 0, .string ⟨#[]⟩, .string ⟨#[]⟩, .slice none 0 0, .slice none 0 0, .slice none 0 0] 68) := ⟨_, rfl⟩
 have hbX : Below w.heap.size w X := by rw [hX]; exact ((Xae _ _).alloc (by simp) _).alloc (by simp; omega) _
 have hx0 : X.cell? ⟨w.heap.size, 0, none⟩ = some (.pointer (some ⟨R, 0, none⟩)) := by
  rw [hX]
  have h0 : (w.alloc (.cells #[.pointer (some ⟨R, 0, none⟩)] 52)).cell? ⟨w.heap.size, 0, none⟩ = some (.pointer (some ⟨R, 0, none⟩)) := by
   rw [cell_of_row _ _ 0 _ _ (0, 0) (heap_alloc_new w _)]; rfl
  exact Xaa (Xaa h0 _) _
 have HP := lh (Xan (h.below' hB hbX) (Nat.le_trans hB hbX.size) [[118, 97, 114], [115, 101, 116], [105, 102], [119, 104, 105, 108, 101], [108, 111, 99, 107], [117, 110, 108, 111, 99, 107], [115, 101, 110, 100], [114, 101, 99, 118], [111, 117, 116], [99, 97, 108, 108], [114, 101, 116, 117, 114, 110]] (by simp) (by decide))
 have HTK : Hid (Xal L [[118, 97, 114], [115, 101, 116], [105, 102], [119, 104, 105, 108, 101], [108, 111, 99, 107], [117, 110, 108, 111, 99, 107], [115, 101, 110, 100], [114, 101, 99, 118], [111, 117, 116], [99, 97, 108, 108], [114, 101, 116, 117, 114, 110]] (t :: r) = .ok t r) := lh (by rw [Xal, if_pos (by rw [ht]; decide)])
 rw [HTK.out, show X.heap.size = w.heap.size + 1 + 1 + 1 by rw [hX]; simp] at HP
 obtain ⟨K, hK⟩ : ∃ K : Int, K = (t.kind : Nat) := ⟨_, rfl⟩
 obtain ⟨S, hS⟩ : ∃ S, S = Xab t.text := ⟨_, rfl⟩
 obtain ⟨U, hU⟩ : ∃ U : Int, U = (t.pl : Nat) := ⟨_, rfl⟩
 have HTV : Hid (∀ v, TokV X t v → v = .agg #[.int .i64 K, .string S, .int .i64 U]) := lh fun v hv => by rw [hK, hS, hU]; exact hv.1
 have HX := lh hX
 have HB := lh hB
 have HRW := lh (show R < w.heap.size by have := h.lt; omega)
 have HU := lh hU
 have HE := lh hE
 have HM := lh hM
 have hwr : IntKind.i64.wrap (D + 1) = D + 1 := IntWalk.i64_in _ ⟨by omega, by omega⟩
 have hfT := Xdn
 have hst : S.toList = [119, 104, 105, 108, 101] := by rw [hS, Xad, ht]
 have HBL := lh hBL
 clear h hB hbX hU hX hE hS hK hM ht hBL
 go_enter Tryz.func84, Tryz.ntmps84
 go_wp2_with fail
 rw [← HX.out]
 refine HP.out.mono ?_
 rintro e w1 ⟨⟨v1, rfl, hv1⟩, hr, hc⟩
 obtain rfl := HTV.out _ hv1
 have HR1 := lh hr
 have HC1 := lh hc
 clear hr hc hx0 hv1 HP HTK HTV
 go_upto_region 4 with (fail)
 obtain ⟨Y, hY⟩ : ∃ Y : World, Y = (w1.alloc (.cells #[.int .i64 K, .string S, .int .i64 U] 76)).alloc (.cells #[.int .i64 0, .int .i64 U, .string ⟨#[]⟩, .string ⟨#[]⟩, .slice none 0 0, .slice none 0 0, .slice none 0 0] 68) := ⟨_, rfl⟩
 rw [← hY]
 obtain ⟨hf, ht0⟩ := Xdv HB.out HRW.out HX.out HR1.out HC1.out _ hY
 obtain ⟨k0, k1, k2, -⟩ := row3 ht0
 have HF0 := lh hf
 have HO0 : Hid (Xaf Y (fun b => (w1.heap.size + 1 + 1) ≤ b) (w1.heap.size + 1 + 1) (.slice none 0 0) []) := lh (Xaf.nil _ _ _)
 have hn0 : ¬ w.heap.size = w1.heap.size + 1 := by have := hf.lo; omega
 have hn0' : ¬ w1.heap.size + 1 = w.heap.size := fun e => hn0 e.symm
 have hn1 : ¬ w.heap.size = w1.heap.size := by have := hf.lo; omega
 have hn1' : ¬ w1.heap.size = w.heap.size := fun e => hn1 e.symm
 clear hf ht0 hY
 obtain ⟨q0, q1⟩ := HF0.out.cells
 obtain ⟨a0, a1, a2, a3, a4, a5, a6, z0, z1, z2, z3, z4, z5, z6⟩ := row7 HF0.out.row
 obtain ⟨b0, b1, b2, b3, b4, b5, b6, f0, f1, f2, f3, f4, f5, f6⟩ := row7 HF0.out.res
 go_wp2_with fail
 obtain ⟨w2, hW⟩ : ∃ Z : World, Z = (Y.setCell ⟨w1.heap.size + 1, 0, none⟩ (.int .i64 4)) := ⟨_, rfl⟩
 rw [← hW]
 have HF2 : Hid (Xaz w B R L (w1.heap.size + 1) D U 4 ⟨#[]⟩ ⟨#[]⟩ (.slice none 0 0) (.slice none 0 0) w2 (.slice none 0 0) _) := lh (by rw [hW]; exact (HF0.out.setK 4))
 have HWS2 : Hid (w2.heap.size = Y.heap.size) := lh (by rw [hW]; simp [World.setCell])
 have HO2 : Hid (Xaf w2 (fun b => (w1.heap.size + 1 + 1) ≤ b) (w1.heap.size + 1 + 1) (.slice none 0 0) []) := lh (by rw [hW]; exact (Xbr (fun b hb => hb) (by omega) HO0.out))
 clear hW q0 q1 a0 a1 a2 a3 a4 a5 a6 z0 z1 z2 z3 z4 z5 z6 b0 b1 b2 b3 b4 b5 b6 f0 f1 f2 f3 f4 f5 f6
 obtain ⟨q0, q1⟩ := HF2.out.cells
 obtain ⟨a0, a1, a2, a3, a4, a5, a6, z0, z1, z2, z3, z4, z5, z6⟩ := row7 HF2.out.row
 obtain ⟨b0, b1, b2, b3, b4, b5, b6, f0, f1, f2, f3, f4, f5, f6⟩ := row7 HF2.out.res
 refine (Xgp (Xaz.ok HF2.out.lo HF2.out.hB) HF2.out HO2.out (by simp) hD0 hD1 HE.out).mono ?_
 rintro e w3 hp
 cases hx : Xah L n r with
 | bad p c =>
   have HM := lh (HM.out.trans (Xam hx))
   rw [hx] at hp
   obtain ⟨rfl, hc⟩ := hp
   have HC3 := lh hc
   clear hx hc
   unfold Xag
   go_wp2
   rw [HM.out]
   exact ⟨rfl, rfl, HC3.out⟩
 | ok y1 u3 =>
   have HM := lh (HM.out.trans (Xap hx))
   rw [hx] at hp
   obtain ⟨rfl, A3, m3, c3, hf, ho⟩ := hp
   have HF3 := lh hf
   have HO3 := lh ho
   have HN0 : Hid (0 < n) := lh (Xxh hx)
   clear hx hf ho q0 q1 a0 a1 a2 a3 a4 a5 a6 z0 z1 z2 z3 z4 z5 z6 b0 b1 b2 b3 b4 b5 b6 f0 f1 f2 f3 f4 f5 f6
   obtain ⟨q0, q1⟩ := HF3.out.cells
   obtain ⟨a0, a1, a2, a3, a4, a5, a6, z0, z1, z2, z3, z4, z5, z6⟩ := row7 HF3.out.row
   obtain ⟨b0, b1, b2, b3, b4, b5, b6, f0, f1, f2, f3, f4, f5, f6⟩ := row7 HF3.out.res
   go_wp2_with fail
   refine (HBL.out HN0.out w3 u3 0 HF3.out.rd HF3.out.size).mono ?_
   rintro e w4 hp
   cases hx : Xdp L (Xcp L n) 0 u3 with
   | bad p c =>
     have HM := lh (HM.out.trans (Xbc hx))
     rw [hx] at hp
     obtain ⟨rfl, hc⟩ := hp
     have HC4 := lh (HF3.out.chg.up hc)
     clear hx hc
     unfold Xag
     go_wp2
     rw [HM.out]
     exact ⟨rfl, rfl, HC4.out⟩
   | ok bs u4 =>
     have HM := lh (HM.out.trans (Xbi hx))
     rw [hx] at hp
     obtain ⟨⟨v4, rfl, hv⟩, hr, hc⟩ := hp
     have HF4 := lh (HF3.out.step hr hc)
     have HO4 := lh (Xaq (fun b hb e => by have := HF3.out.rlo; omega) HF3.out.rlo HO3.out hc)
     have HNW4 : Hid (Xay w4 (fun b => (w1.heap.size + 1 + 1) ≤ b ∧ b < w4.heap.size) bs v4) := lh (Xay.keep hv (fun _ _ => rfl) fun b hb => ⟨by have h9 := hb.1; have h8 := Xac HF3.out.row; omega, hb.2⟩)
     obtain ⟨A4, c4, hvv, -⟩ := Xay.slice hv
     obtain ⟨m4, hm⟩ : ∃ m, m = bs.length := ⟨_, rfl⟩
     rw [← hm] at hvv
     subst hvv
     clear hx hr hc hv hm q0 q1 a0 a1 a2 a3 a4 a5 a6 z0 z1 z2 z3 z4 z5 z6 b0 b1 b2 b3 b4 b5 b6 f0 f1 f2 f3 f4 f5 f6
     obtain ⟨q0, q1⟩ := HF4.out.cells
     obtain ⟨a0, a1, a2, a3, a4, a5, a6, z0, z1, z2, z3, z4, z5, z6⟩ := row7 HF4.out.row
     obtain ⟨b0, b1, b2, b3, b4, b5, b6, f0, f1, f2, f3, f4, f5, f6⟩ := row7 HF4.out.res
     have HBD4 := HNW4
     go_upto_region 16 with (fail)
     obtain ⟨w5, hW⟩ : ∃ Z : World, Z = (w4.setCell ⟨w1.heap.size + 1, 5, none⟩ ((.slice A4 m4 c4))) := ⟨_, rfl⟩
     rw [← hW]
     have HF5 : Hid (Xaz w B R L (w1.heap.size + 1) D U 4 ⟨#[]⟩ ⟨#[]⟩ (.slice A4 m4 c4) (.slice none 0 0) w5 (.slice A3 m3 c3) _) := lh (by rw [hW]; exact (HF4.out.setB (.slice A4 m4 c4)))
     have HWS5 : Hid (w5.heap.size = w4.heap.size) := lh (by rw [hW]; simp [World.setCell])
     have HO5 : Hid (Xaf w5 (fun b => (w1.heap.size + 1 + 1) ≤ b) (w1.heap.size + 1 + 1) (.slice A3 m3 c3) [y1]) := lh (by rw [hW]; exact (Xbr (fun b hb => hb) (by omega) HO4.out))
     have HBD5 : Hid (Xay w5 (fun b => (w1.heap.size + 1 + 1) ≤ b ∧ b < w5.heap.size) bs (.slice A4 m4 c4)) := lh (by rw [hW]; exact (Xil (by omega) HBD4.out))
     clear hW q0 q1 a0 a1 a2 a3 a4 a5 a6 z0 z1 z2 z3 z4 z5 z6 b0 b1 b2 b3 b4 b5 b6 f0 f1 f2 f3 f4 f5 f6
     obtain ⟨q0, q1⟩ := HF5.out.cells
     obtain ⟨a0, a1, a2, a3, a4, a5, a6, z0, z1, z2, z3, z4, z5, z6⟩ := row7 HF5.out.row
     obtain ⟨b0, b1, b2, b3, b4, b5, b6, f0, f1, f2, f3, f4, f5, f6⟩ := row7 HF5.out.res
     obtain ⟨Z, hZ⟩ : ∃ Z : World, Z = w5 := ⟨_, rfl⟩
     have HFIN := lh (HF5.out.done (Xhf HO5.out) HBD5.out (Xay.nil _ _) (x := .mk 4 t.pl [] [] [y1] bs []) rfl HU.out rfl rfl (Nat.zero_le _) (Nat.zero_le _))
     clear hZ
     go_wp2
     refine bodyPost_ret (v := .agg #[.int .i64 4, .int .i64 U, .string ⟨#[]⟩, .string ⟨#[]⟩, (.slice A3 m3 c3), (.slice A4 m4 c4), (.slice none 0 0)]) ?_ rfl ?_
     · clear HFIN
       simp [results, Tryz.results84, go_sem, b0, b1, b2, b3, b4, b5, b6]
     · rw [HM.out]
       exact HFIN.out
end Go.Proofs.YtbckeljbpknbdaaGreatDoor
