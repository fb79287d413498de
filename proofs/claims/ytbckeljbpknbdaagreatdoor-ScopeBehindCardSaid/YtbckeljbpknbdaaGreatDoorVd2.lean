/- Ge -/
import Derived.Test.YtbckeljbpknbdaaGreatDoorVd3
set_option linter.unusedVariables false
set_option linter.unusedSimpArgs false
namespace Go.Proofs.YtbckeljbpknbdaaGreatDoor
open Go.RowKit
set_option maxRecDepth 100000 in
set_option maxHeartbeats 2000000 in
theorem Xux {w : World} {B R L k : Nat} {t nt : Tok} {r : List Tok} (h : RdAt w B R L (t :: nt :: r)) (hB : B ≤ w.heap.size) (hk : k < 64) (hnk : nt.kind = 1) (ht : t.text = [115, 116, 114, 117, 99, 116])
  {T : Rd Dc} (hM : T = (Xen L r).map fun ps => ⟨3, nt.pl, 0, nt.text, [], ps, []⟩) : Calls Tryz.prog 31 #[.pointer (some ⟨R, 0, none⟩), .int .i64 (k : Nat)] w (Xaj (DcB w.heap.size) w B R L T) := by
 obtain ⟨X, hX⟩ : ∃ X : World, X = w.alloc (.cells #[.int .i64 0, .int .i64 0, .int .i64 0, .string ⟨#[]⟩, .string ⟨#[]⟩, .slice none 0 0, .slice none 0 0] 46) := ⟨_, rfl⟩
 have hbX : Below w.heap.size w X := by rw [hX]; exact Xae _ _
 have HP := lh (Xan (h.below' hB hbX) (Nat.le_trans hB hbX.size) [[108, 111, 99, 107], [99, 104, 97, 110], [115, 116, 114, 117, 99, 116], [118, 97, 114], [105, 110, 112, 117, 116], [115, 105, 110, 107], [102, 117, 110, 99], [116, 104, 114, 101, 97, 100]] (by simp) (by decide))
 have HTK : Hid (Xal L [[108, 111, 99, 107], [99, 104, 97, 110], [115, 116, 114, 117, 99, 116], [118, 97, 114], [105, 110, 112, 117, 116], [115, 105, 110, 107], [102, 117, 110, 99], [116, 104, 114, 101, 97, 100]] (t :: nt :: r) = .ok t (nt :: r)) := lh (by rw [Xal, if_pos (by rw [ht]; decide)])
 rw [HTK.out, show X.heap.size = w.heap.size + 1 by rw [hX]; simp] at HP
 obtain ⟨K, hK⟩ : ∃ K : Int, K = (t.kind : Nat) := ⟨_, rfl⟩
 obtain ⟨S, hS⟩ : ∃ S, S = Xab t.text := ⟨_, rfl⟩
 obtain ⟨U0, hU0⟩ : ∃ U : Int, U = (t.pl : Nat) := ⟨_, rfl⟩
 have HTV : Hid (∀ v, TokV X t v → v = .agg #[.int .i64 K, .string S, .int .i64 U0]) := lh fun v hv => by rw [hK, hS, hU0]; exact hv.1
 obtain ⟨NK, hNK⟩ : ∃ K : Int, K = (nt.kind : Nat) := ⟨_, rfl⟩
 obtain ⟨NS, hNS⟩ : ∃ S, S = Xab nt.text := ⟨_, rfl⟩
 obtain ⟨U, hU⟩ : ∃ U : Int, U = (nt.pl : Nat) := ⟨_, rfl⟩
 have HNS := lh hNS
 have HNL := lh ((h.ok nt (by simp)).2.1)
 have HPP : Hid (∀ w : World, RdAt w B R L (nt :: r) → B ≤ w.heap.size → Calls Tryz.prog 53 #[.pointer (some ⟨R, 0, none⟩)] w fun e w' => e = .returned (.agg #[.int .i64 NK, .string NS, .int .i64 U]) ∧ RdAt w' B R L r ∧ Chg (fun b => b = R) w w') := lh fun w h hB => by rw [hNK, hNS, hU]; exact Xbn h hB
 have HX := lh hX
 have HB := lh hB
 have HBX := lh hbX
 have HRW := lh (show R < w.heap.size by have := h.lt; omega)
 have HU := lh hU
 have HM := lh hM
 have HNM : Hid (decide (kd (nt :: r) = 1) = true) := lh (decide_eq_true hnk)
 have HRM : Hid (Xcc L true k 64 (nt :: r) = .ok () (nt :: r)) := lh (by unfold Xcc; rw [if_pos rfl, if_pos hk])
 have hfT := Xdn
 have hst : S.toList = [115, 116, 114, 117, 99, 116] := by rw [hS, Xad, ht]
 clear h hB hbX hU hU0 hX hS hK hM ht hNK hNS hnk hk
 go_enter Tryz.func31, Tryz.ntmps31
 go_wp2_with fail
 rw [← HX.out]
 refine HP.out.mono ?_
 rintro e w1 ⟨⟨v1, rfl, hv1⟩, hr, hc⟩
 obtain rfl := HTV.out _ hv1
 have HR1 := lh hr
 have HC1 := lh hc
 have HS1 : Hid (B ≤ w1.heap.size) := lh (Nat.le_trans HB.out (Nat.le_trans HBX.out.size hc.size))
 clear hr hc hv1 HP HTK HTV
 go_wp2_with fail
 refine (Xda HR1.out).mono ?_
 rintro e w2 ⟨rfl, hb⟩
 have HR2 := lh (HR1.out.below' HS1.out hb)
 have HC2 := lh (HC1.out.up (Chg.of_below hb))
 have HS2 := lh (Nat.le_trans HS1.out hb.size)
 rw [HNM.out]
 clear hb
 go_wp2_with fail
 have HRO := lh (Xff HR2.out true k 64)
 rw [HRM.out] at HRO
 refine HRO.out.mono ?_
 rintro e w2b ⟨⟨v2, rfl, hv2⟩, hr, hc⟩
 have HR2 := lh hr
 have HC2 := lh (HC2.out.up hc)
 have HS2 := lh (Nat.le_trans HS2.out hc.size)
 clear hr hc hv2 HRO
 go_wp2_with fail
 refine (HPP.out w2b HR2.out HS2.out).mono ?_
 rintro e w3 ⟨rfl, hr, hc⟩
 have HR3 := lh hr
 have HC3 := lh (HC2.out.up hc)
 clear hr hc HPP
 go_upto_region 5 with (fail)
 obtain ⟨Y, hY⟩ : ∃ Y : World, Y = (w3.alloc (.cells #[.int .i64 NK, .string NS, .int .i64 U] 76)).alloc (.cells #[.int .i64 0, .int .i64 U, .int .i64 0, .string NS, .string ⟨#[]⟩, .slice none 0 0, .slice none 0 0] 46) := ⟨_, rfl⟩
 rw [← hY]
 have hf := Xew HB.out HRW.out HX.out HR3.out HC3.out _ hY
 have HF0 := lh hf
 have hn0 : ¬ w.heap.size = w3.heap.size + 1 := by have := hf.lo; omega
 have hn0' : ¬ w3.heap.size + 1 = w.heap.size := fun e => hn0 e.symm
 clear hf hY
 obtain ⟨a0, a1, a2, a3, a4, a5, a6, z0, z1, z2, z3, z4, z5, z6⟩ := row7 HF0.out.row
 obtain ⟨b0, b1, b2, b3, b4, b5, b6, f0, f1, f2, f3, f4, f5, f6⟩ := row7 HF0.out.res
 go_wp2_with fail
 refine (Xvd HF0.out.rd HF0.out.size).mono ?_
 rintro e w_4 hp
 cases hx : Xen L r with
 | bad p c =>
   have HM := lh (HM.out.trans (Xbc hx))
   rw [hx] at hp
   obtain ⟨rfl, hc⟩ := hp
   have HC4 := lh (HF0.out.chg.up hc)
   clear hx hc
   unfold Xag
   go_wp2
   rw [HM.out]
   exact ⟨rfl, rfl, HC4.out⟩
 | ok ps u4 =>
   have HM := lh (HM.out.trans (Xbi hx))
   rw [hx] at hp
   obtain ⟨⟨v4, rfl, hv⟩, hr, hc⟩ := hp
   have HF4 := lh (HF0.out.step hr hc)
   have HPR4 : Hid (Xca w_4 (fun b => (w3.heap.size + 1 + 1) ≤ b ∧ b < w_4.heap.size) ps v4) := lh (Xca.keep hv (fun _ _ => rfl) fun b hb => ⟨by have h9 := hb.1; have h8 := Xac HF0.out.row; omega, hb.2⟩)
   obtain ⟨A4, c4, hvv, -⟩ := hv
   obtain ⟨m4, hm⟩ : ∃ m, m = ps.length := ⟨_, rfl⟩
   rw [← hm] at hvv
   subst hvv
   clear hm
   clear hx hr hc a0 a1 a2 a3 a4 a5 a6 z0 z1 z2 z3 z4 z5 z6 b0 b1 b2 b3 b4 b5 b6 f0 f1 f2 f3 f4 f5 f6
   obtain ⟨a0, a1, a2, a3, a4, a5, a6, z0, z1, z2, z3, z4, z5, z6⟩ := row7 HF4.out.row
   obtain ⟨b0, b1, b2, b3, b4, b5, b6, f0, f1, f2, f3, f4, f5, f6⟩ := row7 HF4.out.res
   go_upto_region 8 with (fail)
   obtain ⟨w_5, hW⟩ : ∃ Z : World, Z = ((w_4.setCell ⟨w3.heap.size + 1, 0, none⟩ (.int .i64 3)).setCell ⟨w3.heap.size + 1, 5, none⟩ ((.slice A4 m4 c4))) := ⟨_, rfl⟩
   rw [← hW]
   have HF5 : Hid (Xbt w B R L (w3.heap.size + 1) U NS 3 0 ⟨#[]⟩ (.slice A4 m4 c4) (.slice none 0 0) w_5 _) := lh (by rw [hW]; exact ((HF4.out.setK 3).setP (.slice A4 m4 c4)))
   have HWS5 : Hid (w_5.heap.size = w_4.heap.size) := lh (by rw [hW]; simp [World.setCell])
   have HPR5 : Hid (Xca w_5 (fun b => (w3.heap.size + 1 + 1) ≤ b ∧ b < w_5.heap.size) ps (.slice A4 m4 c4)) := lh (by rw [hW]; exact (Xjn (by omega) (Xjn (by omega) HPR4.out)))
   clear hW a0 a1 a2 a3 a4 a5 a6 z0 z1 z2 z3 z4 z5 z6 b0 b1 b2 b3 b4 b5 b6 f0 f1 f2 f3 f4 f5 f6
   obtain ⟨a0, a1, a2, a3, a4, a5, a6, z0, z1, z2, z3, z4, z5, z6⟩ := row7 HF5.out.row
   obtain ⟨b0, b1, b2, b3, b4, b5, b6, f0, f1, f2, f3, f4, f5, f6⟩ := row7 HF5.out.res
   have HFIN := lh (HF5.out.done HPR5.out (Xay.nil _ _) (x := ⟨3, nt.pl, 0, nt.text, [], ps, []⟩) rfl HU.out rfl HNS.out rfl HNL.out (Nat.zero_le _))
   go_wp2
   refine bodyPost_ret (v := .agg #[.int .i64 3, .int .i64 U, .int .i64 0, .string NS, .string ⟨#[]⟩, (.slice A4 m4 c4), (.slice none 0 0)]) ?_ rfl ?_
   · clear HFIN
     simp [results, Tryz.results31, go_sem, b0, b1, b2, b3, b4, b5, b6]
   · rw [HM.out]
     exact HFIN.out
set_option maxRecDepth 100000 in
set_option maxHeartbeats 2000000 in
theorem Xuy {w : World} {B R L k : Nat} {t nt : Tok} {r : List Tok} (h : RdAt w B R L (t :: nt :: r)) (hB : B ≤ w.heap.size) (hk : k < 64) (hnk : nt.kind = 1) (ht : t.text = [116, 104, 114, 101, 97, 100])
  {T : Rd Dc} (hM : T = (Xgy L r).map fun b => ⟨8, nt.pl, 0, nt.text, [], [], b⟩) : Calls Tryz.prog 31 #[.pointer (some ⟨R, 0, none⟩), .int .i64 (k : Nat)] w (Xaj (DcB w.heap.size) w B R L T) := by
 obtain ⟨X, hX⟩ : ∃ X : World, X = w.alloc (.cells #[.int .i64 0, .int .i64 0, .int .i64 0, .string ⟨#[]⟩, .string ⟨#[]⟩, .slice none 0 0, .slice none 0 0] 46) := ⟨_, rfl⟩
 have hbX : Below w.heap.size w X := by rw [hX]; exact Xae _ _
 have HP := lh (Xan (h.below' hB hbX) (Nat.le_trans hB hbX.size) [[108, 111, 99, 107], [99, 104, 97, 110], [115, 116, 114, 117, 99, 116], [118, 97, 114], [105, 110, 112, 117, 116], [115, 105, 110, 107], [102, 117, 110, 99], [116, 104, 114, 101, 97, 100]] (by simp) (by decide))
 have HTK : Hid (Xal L [[108, 111, 99, 107], [99, 104, 97, 110], [115, 116, 114, 117, 99, 116], [118, 97, 114], [105, 110, 112, 117, 116], [115, 105, 110, 107], [102, 117, 110, 99], [116, 104, 114, 101, 97, 100]] (t :: nt :: r) = .ok t (nt :: r)) := lh (by rw [Xal, if_pos (by rw [ht]; decide)])
 rw [HTK.out, show X.heap.size = w.heap.size + 1 by rw [hX]; simp] at HP
 obtain ⟨K, hK⟩ : ∃ K : Int, K = (t.kind : Nat) := ⟨_, rfl⟩
 obtain ⟨S, hS⟩ : ∃ S, S = Xab t.text := ⟨_, rfl⟩
 obtain ⟨U0, hU0⟩ : ∃ U : Int, U = (t.pl : Nat) := ⟨_, rfl⟩
 have HTV : Hid (∀ v, TokV X t v → v = .agg #[.int .i64 K, .string S, .int .i64 U0]) := lh fun v hv => by rw [hK, hS, hU0]; exact hv.1
 obtain ⟨NK, hNK⟩ : ∃ K : Int, K = (nt.kind : Nat) := ⟨_, rfl⟩
 obtain ⟨NS, hNS⟩ : ∃ S, S = Xab nt.text := ⟨_, rfl⟩
 obtain ⟨U, hU⟩ : ∃ U : Int, U = (nt.pl : Nat) := ⟨_, rfl⟩
 have HNS := lh hNS
 have HNL := lh ((h.ok nt (by simp)).2.1)
 have HPP : Hid (∀ w : World, RdAt w B R L (nt :: r) → B ≤ w.heap.size → Calls Tryz.prog 53 #[.pointer (some ⟨R, 0, none⟩)] w fun e w' => e = .returned (.agg #[.int .i64 NK, .string NS, .int .i64 U]) ∧ RdAt w' B R L r ∧ Chg (fun b => b = R) w w') := lh fun w h hB => by rw [hNK, hNS, hU]; exact Xbn h hB
 have HX := lh hX
 have HB := lh hB
 have HBX := lh hbX
 have HRW := lh (show R < w.heap.size by have := h.lt; omega)
 have HU := lh hU
 have HM := lh hM
 have HNM : Hid (decide (kd (nt :: r) = 1) = true) := lh (decide_eq_true hnk)
 have HRM : Hid (Xcc L true k 64 (nt :: r) = .ok () (nt :: r)) := lh (by unfold Xcc; rw [if_pos rfl, if_pos hk])
 have hfT := Xdn
 have hst : S.toList = [116, 104, 114, 101, 97, 100] := by rw [hS, Xad, ht]
 clear h hB hbX hU hU0 hX hS hK hM ht hNK hNS hnk hk
 go_enter Tryz.func31, Tryz.ntmps31
 go_wp2_with fail
 rw [← HX.out]
 refine HP.out.mono ?_
 rintro e w1 ⟨⟨v1, rfl, hv1⟩, hr, hc⟩
 obtain rfl := HTV.out _ hv1
 have HR1 := lh hr
 have HC1 := lh hc
 have HS1 : Hid (B ≤ w1.heap.size) := lh (Nat.le_trans HB.out (Nat.le_trans HBX.out.size hc.size))
 clear hr hc hv1 HP HTK HTV
 go_wp2_with fail
 refine (Xda HR1.out).mono ?_
 rintro e w2 ⟨rfl, hb⟩
 have HR2 := lh (HR1.out.below' HS1.out hb)
 have HC2 := lh (HC1.out.up (Chg.of_below hb))
 have HS2 := lh (Nat.le_trans HS1.out hb.size)
 rw [HNM.out]
 clear hb
 go_wp2_with fail
 have HRO := lh (Xff HR2.out true k 64)
 rw [HRM.out] at HRO
 refine HRO.out.mono ?_
 rintro e w2b ⟨⟨v2, rfl, hv2⟩, hr, hc⟩
 have HR2 := lh hr
 have HC2 := lh (HC2.out.up hc)
 have HS2 := lh (Nat.le_trans HS2.out hc.size)
 clear hr hc hv2 HRO
 go_wp2_with fail
 refine (HPP.out w2b HR2.out HS2.out).mono ?_
 rintro e w3 ⟨rfl, hr, hc⟩
 have HR3 := lh hr
 have HC3 := lh (HC2.out.up hc)
 clear hr hc HPP
 go_upto_region 5 with (fail)
 obtain ⟨Y, hY⟩ : ∃ Y : World, Y = (w3.alloc (.cells #[.int .i64 NK, .string NS, .int .i64 U] 76)).alloc (.cells #[.int .i64 0, .int .i64 U, .int .i64 0, .string NS, .string ⟨#[]⟩, .slice none 0 0, .slice none 0 0] 46) := ⟨_, rfl⟩
 rw [← hY]
 have hf := Xew HB.out HRW.out HX.out HR3.out HC3.out _ hY
 have HF0 := lh hf
 have hn0 : ¬ w.heap.size = w3.heap.size + 1 := by have := hf.lo; omega
 have hn0' : ¬ w3.heap.size + 1 = w.heap.size := fun e => hn0 e.symm
 clear hf hY
 obtain ⟨a0, a1, a2, a3, a4, a5, a6, z0, z1, z2, z3, z4, z5, z6⟩ := row7 HF0.out.row
 obtain ⟨b0, b1, b2, b3, b4, b5, b6, f0, f1, f2, f3, f4, f5, f6⟩ := row7 HF0.out.res
 go_wp2_with fail
 refine (Xqr HF0.out.rd HF0.out.size).mono ?_
 rintro e w_4 hp
 cases hx : Xgy L r with
 | bad p c =>
   have HM := lh (HM.out.trans (Xbc hx))
   rw [hx] at hp
   obtain ⟨rfl, hc⟩ := hp
   have HC4 := lh (HF0.out.chg.up hc)
   clear hx hc
   unfold Xag
   go_wp2
   rw [HM.out]
   exact ⟨rfl, rfl, HC4.out⟩
 | ok bs u4 =>
   have HM := lh (HM.out.trans (Xbi hx))
   rw [hx] at hp
   obtain ⟨⟨v4, rfl, hv⟩, hr, hc⟩ := hp
   have HF4 := lh (HF0.out.step hr hc)
   have HBD4 : Hid (Xay w_4 (fun b => (w3.heap.size + 1 + 1) ≤ b ∧ b < w_4.heap.size) bs v4) := lh (Xay.keep hv (fun _ _ => rfl) fun b hb => ⟨by have h9 := hb.1; have h8 := Xac HF0.out.row; omega, hb.2⟩)
   obtain ⟨A4, c4, hvv, -⟩ := Xay.slice hv
   obtain ⟨m4, hm⟩ : ∃ m, m = bs.length := ⟨_, rfl⟩
   rw [← hm] at hvv
   subst hvv
   clear hm hv
   clear hx hr hc a0 a1 a2 a3 a4 a5 a6 z0 z1 z2 z3 z4 z5 z6 b0 b1 b2 b3 b4 b5 b6 f0 f1 f2 f3 f4 f5 f6
   obtain ⟨a0, a1, a2, a3, a4, a5, a6, z0, z1, z2, z3, z4, z5, z6⟩ := row7 HF4.out.row
   obtain ⟨b0, b1, b2, b3, b4, b5, b6, f0, f1, f2, f3, f4, f5, f6⟩ := row7 HF4.out.res
   go_upto_region 17 with (fail)
   obtain ⟨w_5, hW⟩ : ∃ Z : World, Z = ((w_4.setCell ⟨w3.heap.size + 1, 0, none⟩ (.int .i64 8)).setCell ⟨w3.heap.size + 1, 6, none⟩ ((.slice A4 m4 c4))) := ⟨_, rfl⟩
   rw [← hW]
   have HF5 : Hid (Xbt w B R L (w3.heap.size + 1) U NS 8 0 ⟨#[]⟩ (.slice none 0 0) (.slice A4 m4 c4) w_5 _) := lh (by rw [hW]; exact ((HF4.out.setK 8).setB (.slice A4 m4 c4)))
   have HWS5 : Hid (w_5.heap.size = w_4.heap.size) := lh (by rw [hW]; simp [World.setCell])
   have HBD5 : Hid (Xay w_5 (fun b => (w3.heap.size + 1 + 1) ≤ b ∧ b < w_5.heap.size) bs (.slice A4 m4 c4)) := lh (by rw [hW]; exact (Xil (by omega) (Xil (by omega) HBD4.out)))
   clear hW a0 a1 a2 a3 a4 a5 a6 z0 z1 z2 z3 z4 z5 z6 b0 b1 b2 b3 b4 b5 b6 f0 f1 f2 f3 f4 f5 f6
   obtain ⟨a0, a1, a2, a3, a4, a5, a6, z0, z1, z2, z3, z4, z5, z6⟩ := row7 HF5.out.row
   obtain ⟨b0, b1, b2, b3, b4, b5, b6, f0, f1, f2, f3, f4, f5, f6⟩ := row7 HF5.out.res
   have HFIN := lh (HF5.out.done (Xca.nil _ _) HBD5.out (x := ⟨8, nt.pl, 0, nt.text, [], [], bs⟩) rfl HU.out rfl HNS.out rfl HNL.out (Nat.zero_le _))
   go_wp2
   refine bodyPost_ret (v := .agg #[.int .i64 8, .int .i64 U, .int .i64 0, .string NS, .string ⟨#[]⟩, (.slice none 0 0), (.slice A4 m4 c4)]) ?_ rfl ?_
   · clear HFIN
     simp [results, Tryz.results31, go_sem, b0, b1, b2, b3, b4, b5, b6]
   · rw [HM.out]
     exact HFIN.out
set_option maxRecDepth 100000 in
set_option maxHeartbeats 2000000 in
theorem Ycd {w : World} {B R L k : Nat} {t nt : Tok} {r : List Tok} (h : RdAt w B R L (t :: nt :: r)) (hB : B ≤ w.heap.size) (hk : k < 64) (hnk : nt.kind = 1) (ht : t.text = [102, 117, 110, 99])
  {T : Rd Dc} (hM : T = (Xfc L r).bind fun ps r2 => if tx r2 = [123] then (Xgy L r2).map fun b => ⟨7, nt.pl, 0, nt.text, [], ps, b⟩ else (Xem L r2).bind fun y r3 => (Xgy L r3).map fun b => ⟨7, nt.pl, 0, nt.text, y, ps, b⟩) : Calls Tryz.prog 31 #[.pointer (some ⟨R, 0, none⟩), .int .i64 (k : Nat)] w (Xaj (DcB w.heap.size) w B R L T) := by
 obtain ⟨X, hX⟩ : ∃ X : World, X = w.alloc (.cells #[.int .i64 0, .int .i64 0, .int .i64 0, .string ⟨#[]⟩, .string ⟨#[]⟩, .slice none 0 0, .slice none 0 0] 46) := ⟨_, rfl⟩
 have hbX : Below w.heap.size w X := by rw [hX]; exact Xae _ _
 have HP := lh (Xan (h.below' hB hbX) (Nat.le_trans hB hbX.size) [[108, 111, 99, 107], [99, 104, 97, 110], [115, 116, 114, 117, 99, 116], [118, 97, 114], [105, 110, 112, 117, 116], [115, 105, 110, 107], [102, 117, 110, 99], [116, 104, 114, 101, 97, 100]] (by simp) (by decide))
 have HTK : Hid (Xal L [[108, 111, 99, 107], [99, 104, 97, 110], [115, 116, 114, 117, 99, 116], [118, 97, 114], [105, 110, 112, 117, 116], [115, 105, 110, 107], [102, 117, 110, 99], [116, 104, 114, 101, 97, 100]] (t :: nt :: r) = .ok t (nt :: r)) := lh (by rw [Xal, if_pos (by rw [ht]; decide)])
 rw [HTK.out, show X.heap.size = w.heap.size + 1 by rw [hX]; simp] at HP
 obtain ⟨K, hK⟩ : ∃ K : Int, K = (t.kind : Nat) := ⟨_, rfl⟩
 obtain ⟨S, hS⟩ : ∃ S, S = Xab t.text := ⟨_, rfl⟩
 obtain ⟨U0, hU0⟩ : ∃ U : Int, U = (t.pl : Nat) := ⟨_, rfl⟩
 have HTV : Hid (∀ v, TokV X t v → v = .agg #[.int .i64 K, .string S, .int .i64 U0]) := lh fun v hv => by rw [hK, hS, hU0]; exact hv.1
 obtain ⟨NK, hNK⟩ : ∃ K : Int, K = (nt.kind : Nat) := ⟨_, rfl⟩
 obtain ⟨NS, hNS⟩ : ∃ S, S = Xab nt.text := ⟨_, rfl⟩
 obtain ⟨U, hU⟩ : ∃ U : Int, U = (nt.pl : Nat) := ⟨_, rfl⟩
 have HNS := lh hNS
 have HNL := lh ((h.ok nt (by simp)).2.1)
 have HPP : Hid (∀ w : World, RdAt w B R L (nt :: r) → B ≤ w.heap.size → Calls Tryz.prog 53 #[.pointer (some ⟨R, 0, none⟩)] w fun e w' => e = .returned (.agg #[.int .i64 NK, .string NS, .int .i64 U]) ∧ RdAt w' B R L r ∧ Chg (fun b => b = R) w w') := lh fun w h hB => by rw [hNK, hNS, hU]; exact Xbn h hB
 have HX := lh hX
 have HB := lh hB
 have HBX := lh hbX
 have HRW := lh (show R < w.heap.size by have := h.lt; omega)
 have HU := lh hU
 have HM := lh hM
 have HNM : Hid (decide (kd (nt :: r) = 1) = true) := lh (decide_eq_true hnk)
 have HRM : Hid (Xcc L true k 64 (nt :: r) = .ok () (nt :: r)) := lh (by unfold Xcc; rw [if_pos rfl, if_pos hk])
 have hfT := Xdn
 have hst : S.toList = [102, 117, 110, 99] := by rw [hS, Xad, ht]
 clear h hB hbX hU hU0 hX hS hK hM ht hNK hNS hnk hk
 go_enter Tryz.func31, Tryz.ntmps31
 go_wp2_with fail
 rw [← HX.out]
 refine HP.out.mono ?_
 rintro e w1 ⟨⟨v1, rfl, hv1⟩, hr, hc⟩
 obtain rfl := HTV.out _ hv1
 have HR1 := lh hr
 have HC1 := lh hc
 have HS1 : Hid (B ≤ w1.heap.size) := lh (Nat.le_trans HB.out (Nat.le_trans HBX.out.size hc.size))
 clear hr hc hv1 HP HTK HTV
 go_wp2_with fail
 refine (Xda HR1.out).mono ?_
 rintro e w2 ⟨rfl, hb⟩
 have HR2 := lh (HR1.out.below' HS1.out hb)
 have HC2 := lh (HC1.out.up (Chg.of_below hb))
 have HS2 := lh (Nat.le_trans HS1.out hb.size)
 rw [HNM.out]
 clear hb
 go_wp2_with fail
 have HRO := lh (Xff HR2.out true k 64)
 rw [HRM.out] at HRO
 refine HRO.out.mono ?_
 rintro e w2b ⟨⟨v2, rfl, hv2⟩, hr, hc⟩
 have HR2 := lh hr
 have HC2 := lh (HC2.out.up hc)
 have HS2 := lh (Nat.le_trans HS2.out hc.size)
 clear hr hc hv2 HRO
 go_wp2_with fail
 refine (HPP.out w2b HR2.out HS2.out).mono ?_
 rintro e w3 ⟨rfl, hr, hc⟩
 have HR3 := lh hr
 have HC3 := lh (HC2.out.up hc)
 clear hr hc HPP
 go_upto_region 5 with (fail)
 obtain ⟨Y, hY⟩ : ∃ Y : World, Y = (w3.alloc (.cells #[.int .i64 NK, .string NS, .int .i64 U] 76)).alloc (.cells #[.int .i64 0, .int .i64 U, .int .i64 0, .string NS, .string ⟨#[]⟩, .slice none 0 0, .slice none 0 0] 46) := ⟨_, rfl⟩
 rw [← hY]
 have hf := Xew HB.out HRW.out HX.out HR3.out HC3.out _ hY
 have HF0 := lh hf
 have hn0 : ¬ w.heap.size = w3.heap.size + 1 := by have := hf.lo; omega
 have hn0' : ¬ w3.heap.size + 1 = w.heap.size := fun e => hn0 e.symm
 clear hf hY
 obtain ⟨a0, a1, a2, a3, a4, a5, a6, z0, z1, z2, z3, z4, z5, z6⟩ := row7 HF0.out.row
 obtain ⟨b0, b1, b2, b3, b4, b5, b6, f0, f1, f2, f3, f4, f5, f6⟩ := row7 HF0.out.res
 go_wp2_with fail
 refine (Xwe HF0.out.rd HF0.out.size).mono ?_
 rintro e w_4 hp
 cases hx : Xfc L r with
 | bad p c =>
   have HM := lh (HM.out.trans (Xam hx))
   rw [hx] at hp
   obtain ⟨rfl, hc⟩ := hp
   have HC4 := lh (HF0.out.chg.up hc)
   clear hx hc
   unfold Xag
   go_wp2
   rw [HM.out]
   exact ⟨rfl, rfl, HC4.out⟩
 | ok ps u4 =>
   have HM := lh (HM.out.trans (Xap hx))
   rw [hx] at hp
   obtain ⟨⟨v4, rfl, hv⟩, hr, hc⟩ := hp
   have HF4 := lh (HF0.out.step hr hc)
   have HPR4 : Hid (Xca w_4 (fun b => (w3.heap.size + 1 + 1) ≤ b ∧ b < w_4.heap.size) ps v4) := lh (Xca.keep hv (fun _ _ => rfl) fun b hb => ⟨by have h9 := hb.1; have h8 := Xac HF0.out.row; omega, hb.2⟩)
   obtain ⟨A4, c4, hvv, -⟩ := hv
   obtain ⟨m4, hm⟩ : ∃ m, m = ps.length := ⟨_, rfl⟩
   rw [← hm] at hvv
   subst hvv
   clear hm
   clear hx hr hc a0 a1 a2 a3 a4 a5 a6 z0 z1 z2 z3 z4 z5 z6 b0 b1 b2 b3 b4 b5 b6 f0 f1 f2 f3 f4 f5 f6
   obtain ⟨a0, a1, a2, a3, a4, a5, a6, z0, z1, z2, z3, z4, z5, z6⟩ := row7 HF4.out.row
   obtain ⟨b0, b1, b2, b3, b4, b5, b6, f0, f1, f2, f3, f4, f5, f6⟩ := row7 HF4.out.res
   go_wp2_with fail
   obtain ⟨w_5, hW⟩ : ∃ Z : World, Z = ((w_4.setCell ⟨w3.heap.size + 1, 0, none⟩ (.int .i64 7)).setCell ⟨w3.heap.size + 1, 5, none⟩ ((.slice A4 m4 c4))) := ⟨_, rfl⟩
   rw [← hW]
   have HF5 : Hid (Xbt w B R L (w3.heap.size + 1) U NS 7 0 ⟨#[]⟩ (.slice A4 m4 c4) (.slice none 0 0) w_5 _) := lh (by rw [hW]; exact ((HF4.out.setK 7).setP (.slice A4 m4 c4)))
   have HWS5 : Hid (w_5.heap.size = w_4.heap.size) := lh (by rw [hW]; simp [World.setCell])
   have HPR5 : Hid (Xca w_5 (fun b => (w3.heap.size + 1 + 1) ≤ b ∧ b < w_5.heap.size) ps (.slice A4 m4 c4)) := lh (by rw [hW]; exact (Xjn (by omega) (Xjn (by omega) HPR4.out)))
   clear hW a0 a1 a2 a3 a4 a5 a6 z0 z1 z2 z3 z4 z5 z6 b0 b1 b2 b3 b4 b5 b6 f0 f1 f2 f3 f4 f5 f6
   obtain ⟨a0, a1, a2, a3, a4, a5, a6, z0, z1, z2, z3, z4, z5, z6⟩ := row7 HF5.out.row
   obtain ⟨b0, b1, b2, b3, b4, b5, b6, f0, f1, f2, f3, f4, f5, f6⟩ := row7 HF5.out.res
   obtain ⟨K2, hK2⟩ : ∃ K : Int, K = (kd u4 : Nat) := ⟨_, rfl⟩
   obtain ⟨S2, hS2⟩ : ∃ S, S = Xab (tx u4) := ⟨_, rfl⟩
   obtain ⟨P2, hP2⟩ : ∃ P : Int, P = (plc L u4 : Nat) := ⟨_, rfl⟩
   have HNX := lh (Xeg HF5.out.rd)
   rw [← hK2, ← hS2, ← hP2] at HNX
   clear hK2 hP2
   by_cases hs : tx u4 = [123]
   ·
    have s1 : (S2.toList == [123]) = true := by rw [hS2, Xad]; rw [hs]; rfl
    have s2 : (S2.toList != [123]) = false := by simp only [bne, s1]; rfl
    have HM := lh (HM.out.trans (if_pos hs))
    clear hS2 hs
    refine HNX.out.mono ?_
    rintro e w_6 ⟨rfl, hb⟩
    have HF6 := lh (HF5.out.step (HF5.out.rd.below' HF5.out.size hb) (Chg.of_below hb))
    have HPR6 := lh (Xkg HF5.out.rlo HPR5.out (Chg.of_below hb))
    clear hb HNX a0 a1 a2 a3 a4 a5 a6 z0 z1 z2 z3 z4 z5 z6 b0 b1 b2 b3 b4 b5 b6 f0 f1 f2 f3 f4 f5 f6
    obtain ⟨a0, a1, a2, a3, a4, a5, a6, z0, z1, z2, z3, z4, z5, z6⟩ := row7 HF6.out.row
    obtain ⟨b0, b1, b2, b3, b4, b5, b6, f0, f1, f2, f3, f4, f5, f6⟩ := row7 HF6.out.res
    go_wp2_with fail
    refine (Xqr HF6.out.rd HF6.out.size).mono ?_
    rintro e w_7 hp
    cases hx : Xgy L u4 with
    | bad p c =>
      have HM := lh (HM.out.trans (Xbc hx))
      rw [hx] at hp
      obtain ⟨rfl, hc⟩ := hp
      have HC7 := lh (HF6.out.chg.up hc)
      clear hx hc
      unfold Xag
      go_wp2
      rw [HM.out]
      exact ⟨rfl, rfl, HC7.out⟩
    | ok bs u7 =>
      have HM := lh (HM.out.trans (Xbi hx))
      rw [hx] at hp
      obtain ⟨⟨v7, rfl, hv⟩, hr, hc⟩ := hp
      have HF7 := lh (HF6.out.step hr hc)
      have HPR7 := lh (Xkg HF6.out.rlo HPR6.out hc)
      have HBD7 : Hid (Xay w_7 (fun b => (w3.heap.size + 1 + 1) ≤ b ∧ b < w_7.heap.size) bs v7) := lh (Xay.keep hv (fun _ _ => rfl) fun b hb => ⟨by have h9 := hb.1; have h8 := Xac HF6.out.row; omega, hb.2⟩)
      obtain ⟨A7, c7, hvv, -⟩ := Xay.slice hv
      obtain ⟨m7, hm⟩ : ∃ m, m = bs.length := ⟨_, rfl⟩
      rw [← hm] at hvv
      subst hvv
      clear hm hv
      clear hx hr hc a0 a1 a2 a3 a4 a5 a6 z0 z1 z2 z3 z4 z5 z6 b0 b1 b2 b3 b4 b5 b6 f0 f1 f2 f3 f4 f5 f6
      obtain ⟨a0, a1, a2, a3, a4, a5, a6, z0, z1, z2, z3, z4, z5, z6⟩ := row7 HF7.out.row
      obtain ⟨b0, b1, b2, b3, b4, b5, b6, f0, f1, f2, f3, f4, f5, f6⟩ := row7 HF7.out.res
      go_upto_region 14 with (fail)
      obtain ⟨w_8, hW⟩ : ∃ Z : World, Z = (w_7.setCell ⟨w3.heap.size + 1, 6, none⟩ ((.slice A7 m7 c7))) := ⟨_, rfl⟩
      rw [← hW]
      have HF8 : Hid (Xbt w B R L (w3.heap.size + 1) U NS 7 0 ⟨#[]⟩ (.slice A4 m4 c4) (.slice A7 m7 c7) w_8 _) := lh (by rw [hW]; exact (HF7.out.setB (.slice A7 m7 c7)))
      have HWS8 : Hid (w_8.heap.size = w_7.heap.size) := lh (by rw [hW]; simp [World.setCell])
      have HPR8 : Hid (Xca w_8 (fun b => (w3.heap.size + 1 + 1) ≤ b ∧ b < w_8.heap.size) ps (.slice A4 m4 c4)) := lh (by rw [hW]; exact (Xjn (by omega) HPR7.out))
      have HBD8 : Hid (Xay w_8 (fun b => (w3.heap.size + 1 + 1) ≤ b ∧ b < w_8.heap.size) bs (.slice A7 m7 c7)) := lh (by rw [hW]; exact (Xil (by omega) HBD7.out))
      clear hW a0 a1 a2 a3 a4 a5 a6 z0 z1 z2 z3 z4 z5 z6 b0 b1 b2 b3 b4 b5 b6 f0 f1 f2 f3 f4 f5 f6
      obtain ⟨a0, a1, a2, a3, a4, a5, a6, z0, z1, z2, z3, z4, z5, z6⟩ := row7 HF8.out.row
      obtain ⟨b0, b1, b2, b3, b4, b5, b6, f0, f1, f2, f3, f4, f5, f6⟩ := row7 HF8.out.res
      have HFIN := lh (HF8.out.done HPR8.out HBD8.out (x := ⟨7, nt.pl, 0, nt.text, [], ps, bs⟩) rfl HU.out rfl HNS.out rfl HNL.out (Nat.zero_le _))
      go_wp2
      refine bodyPost_ret (v := .agg #[.int .i64 7, .int .i64 U, .int .i64 0, .string NS, .string ⟨#[]⟩, (.slice A4 m4 c4), (.slice A7 m7 c7)]) ?_ rfl ?_
      · clear HFIN
        simp [results, Tryz.results31, go_sem, b0, b1, b2, b3, b4, b5, b6]
      · rw [HM.out]
        exact HFIN.out
   ·
    have s1 : (S2.toList == [123]) = false := by rw [hS2, Xad]; exact beq_eq_false_iff_ne.2 hs
    have s2 : (S2.toList != [123]) = true := by simp only [bne, s1]; rfl
    have HM := lh (HM.out.trans (if_neg hs))
    clear hS2 hs
    refine HNX.out.mono ?_
    rintro e w_6 ⟨rfl, hb⟩
    have HF6 := lh (HF5.out.step (HF5.out.rd.below' HF5.out.size hb) (Chg.of_below hb))
    have HPR6 := lh (Xkg HF5.out.rlo HPR5.out (Chg.of_below hb))
    clear hb HNX a0 a1 a2 a3 a4 a5 a6 z0 z1 z2 z3 z4 z5 z6 b0 b1 b2 b3 b4 b5 b6 f0 f1 f2 f3 f4 f5 f6
    obtain ⟨a0, a1, a2, a3, a4, a5, a6, z0, z1, z2, z3, z4, z5, z6⟩ := row7 HF6.out.row
    obtain ⟨b0, b1, b2, b3, b4, b5, b6, f0, f1, f2, f3, f4, f5, f6⟩ := row7 HF6.out.res
    go_wp2_with fail
    refine (Xjb HF6.out.rd HF6.out.size).mono ?_
    rintro e w_7 hp
    cases hx : Xem L u4 with
    | bad p c =>
      have HM := lh (HM.out.trans (Xam hx))
      rw [hx] at hp
      obtain ⟨rfl, hc⟩ := hp
      have HC7 := lh (HF6.out.chg.up hc)
      clear hx hc
      unfold Xag
      go_wp2
      rw [HM.out]
      exact ⟨rfl, rfl, HC7.out⟩
    | ok x1 u7 =>
      have HM := lh (HM.out.trans (Xap hx))
      rw [hx] at hp
      obtain ⟨⟨v7, rfl, hv⟩, hr, hc⟩ := hp
      have HF7 := lh (HF6.out.step hr hc)
      have HPR7 := lh (Xkg HF6.out.rlo HPR6.out hc)
      obtain ⟨rfl, hl⟩ := hv
      have HLx1 := lh hl
      clear hl
      clear hx hr hc a0 a1 a2 a3 a4 a5 a6 z0 z1 z2 z3 z4 z5 z6 b0 b1 b2 b3 b4 b5 b6 f0 f1 f2 f3 f4 f5 f6
      obtain ⟨a0, a1, a2, a3, a4, a5, a6, z0, z1, z2, z3, z4, z5, z6⟩ := row7 HF7.out.row
      obtain ⟨b0, b1, b2, b3, b4, b5, b6, f0, f1, f2, f3, f4, f5, f6⟩ := row7 HF7.out.res
      go_wp2_with fail
      obtain ⟨w_8, hW⟩ : ∃ Z : World, Z = (w_7.setCell ⟨w3.heap.size + 1, 4, none⟩ (.string (Xab x1))) := ⟨_, rfl⟩
      rw [← hW]
      have HF8 : Hid (Xbt w B R L (w3.heap.size + 1) U NS 7 0 (Xab x1) (.slice A4 m4 c4) (.slice none 0 0) w_8 _) := lh (by rw [hW]; exact (HF7.out.setT (Xab x1)))
      have HWS8 : Hid (w_8.heap.size = w_7.heap.size) := lh (by rw [hW]; simp [World.setCell])
      have HPR8 : Hid (Xca w_8 (fun b => (w3.heap.size + 1 + 1) ≤ b ∧ b < w_8.heap.size) ps (.slice A4 m4 c4)) := lh (by rw [hW]; exact (Xjn (by omega) HPR7.out))
      clear hW a0 a1 a2 a3 a4 a5 a6 z0 z1 z2 z3 z4 z5 z6 b0 b1 b2 b3 b4 b5 b6 f0 f1 f2 f3 f4 f5 f6
      obtain ⟨a0, a1, a2, a3, a4, a5, a6, z0, z1, z2, z3, z4, z5, z6⟩ := row7 HF8.out.row
      obtain ⟨b0, b1, b2, b3, b4, b5, b6, f0, f1, f2, f3, f4, f5, f6⟩ := row7 HF8.out.res
      refine (Xqr HF8.out.rd HF8.out.size).mono ?_
      rintro e w_9 hp
      cases hx : Xgy L u7 with
      | bad p c =>
        have HM := lh (HM.out.trans (Xbc hx))
        rw [hx] at hp
        obtain ⟨rfl, hc⟩ := hp
        have HC9 := lh (HF8.out.chg.up hc)
        clear hx hc
        unfold Xag
        go_wp2
        rw [HM.out]
        exact ⟨rfl, rfl, HC9.out⟩
      | ok bs u9 =>
        have HM := lh (HM.out.trans (Xbi hx))
        rw [hx] at hp
        obtain ⟨⟨v9, rfl, hv⟩, hr, hc⟩ := hp
        have HF9 := lh (HF8.out.step hr hc)
        have HPR9 := lh (Xkg HF8.out.rlo HPR8.out hc)
        have HBD9 : Hid (Xay w_9 (fun b => (w3.heap.size + 1 + 1) ≤ b ∧ b < w_9.heap.size) bs v9) := lh (Xay.keep hv (fun _ _ => rfl) fun b hb => ⟨by have h9 := hb.1; have h8 := Xac HF8.out.row; omega, hb.2⟩)
        obtain ⟨A9, c9, hvv, -⟩ := Xay.slice hv
        obtain ⟨m9, hm⟩ : ∃ m, m = bs.length := ⟨_, rfl⟩
        rw [← hm] at hvv
        subst hvv
        clear hm hv
        clear hx hr hc a0 a1 a2 a3 a4 a5 a6 z0 z1 z2 z3 z4 z5 z6 b0 b1 b2 b3 b4 b5 b6 f0 f1 f2 f3 f4 f5 f6
        obtain ⟨a0, a1, a2, a3, a4, a5, a6, z0, z1, z2, z3, z4, z5, z6⟩ := row7 HF9.out.row
        obtain ⟨b0, b1, b2, b3, b4, b5, b6, f0, f1, f2, f3, f4, f5, f6⟩ := row7 HF9.out.res
        go_upto_region 14 with (fail)
        obtain ⟨w_10, hW⟩ : ∃ Z : World, Z = (w_9.setCell ⟨w3.heap.size + 1, 6, none⟩ ((.slice A9 m9 c9))) := ⟨_, rfl⟩
        rw [← hW]
        have HF10 : Hid (Xbt w B R L (w3.heap.size + 1) U NS 7 0 (Xab x1) (.slice A4 m4 c4) (.slice A9 m9 c9) w_10 _) := lh (by rw [hW]; exact (HF9.out.setB (.slice A9 m9 c9)))
        have HWS10 : Hid (w_10.heap.size = w_9.heap.size) := lh (by rw [hW]; simp [World.setCell])
        have HPR10 : Hid (Xca w_10 (fun b => (w3.heap.size + 1 + 1) ≤ b ∧ b < w_10.heap.size) ps (.slice A4 m4 c4)) := lh (by rw [hW]; exact (Xjn (by omega) HPR9.out))
        have HBD10 : Hid (Xay w_10 (fun b => (w3.heap.size + 1 + 1) ≤ b ∧ b < w_10.heap.size) bs (.slice A9 m9 c9)) := lh (by rw [hW]; exact (Xil (by omega) HBD9.out))
        clear hW a0 a1 a2 a3 a4 a5 a6 z0 z1 z2 z3 z4 z5 z6 b0 b1 b2 b3 b4 b5 b6 f0 f1 f2 f3 f4 f5 f6
        obtain ⟨a0, a1, a2, a3, a4, a5, a6, z0, z1, z2, z3, z4, z5, z6⟩ := row7 HF10.out.row
        obtain ⟨b0, b1, b2, b3, b4, b5, b6, f0, f1, f2, f3, f4, f5, f6⟩ := row7 HF10.out.res
        have HFIN := lh (HF10.out.done HPR10.out HBD10.out (x := ⟨7, nt.pl, 0, nt.text, x1, ps, bs⟩) rfl HU.out rfl HNS.out rfl HNL.out HLx1.out)
        go_wp2
        refine bodyPost_ret (v := .agg #[.int .i64 7, .int .i64 U, .int .i64 0, .string NS, .string (Xab x1), (.slice A4 m4 c4), (.slice A9 m9 c9)]) ?_ rfl ?_
        · clear HFIN
          simp [results, Tryz.results31, go_sem, b0, b1, b2, b3, b4, b5, b6]
        · rw [HM.out]
          exact HFIN.out
end Go.Proofs.YtbckeljbpknbdaaGreatDoor
