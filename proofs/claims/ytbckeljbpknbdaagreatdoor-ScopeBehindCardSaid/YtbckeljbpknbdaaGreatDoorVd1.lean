/- Gd -/
import Derived.Test.YtbckeljbpknbdaaGreatDoorVd3
set_option linter.unusedVariables false
set_option linter.unusedSimpArgs false
namespace Go.Proofs.YtbckeljbpknbdaaGreatDoor
open Go.RowKit
set_option maxRecDepth 100000 in
set_option maxHeartbeats 2000000 in
theorem Yce {w : World} {B R L k : Nat} {t nt : Tok} {r : List Tok} (h : RdAt w B R L (t :: nt :: r)) (hB : B ≤ w.heap.size) (hk : k < 64) (hnk : nt.kind = 1) (ht : t.text = [108, 111, 99, 107])
  {T : Rd Dc} (hM : T = Xgk L ⟨1, nt.pl, 0, nt.text, [], [], []⟩ r) : Calls Tryz.prog 31 #[.pointer (some ⟨R, 0, none⟩), .int .i64 (k : Nat)] w (Xaj (DcB w.heap.size) w B R L T) := by
 obtain ⟨X, hX⟩ : ∃ X : World, X = w.alloc (.cells #[.int .i64 0, .int .i64 0, .int .i64 0, .string ⟨#[]⟩, .string ⟨#[]⟩, .slice none 0 0, .slice none 0 0] 46) := ⟨_, rfl⟩
 have hbX : Below w.heap.size w X := by rw [hX]; exact Xae _ _
 have HP := lh (Xan (h.below' hB hbX) (Nat.le_trans hB hbX.size) [[108, 111, 99, 107], [99, 104, 97, 110], [115, 116, 114, 117, 99, 116], [118, 97, 114], [105, 110, 112, 117, 116], [115, 105, 110, 107], [102, 117, 110, 99], [116, 104, 114, 101, 97, 100]] (by simp) (by decide))
 have HTK : Hid (Xal L [[108, 111, 99, 107], [99, 104, 97, 110], [115, 116, 114, 117, 99, 116], [118, 97, 114], [105, 110, 112, 117, 116], [115, 105, 110, 107], [102, 117, 110, 99], [116, 104, 114, 101, 97, 100]] (t :: nt :: r) = .ok t (nt :: r)) := lh (by rw [Xal, if_pos (by rw [ht]; decide)])
 rw [HTK.out, show X.heap.size = w.heap.size + 1 by rw [hX]; simp] at HP
 obtain ⟨K, hK⟩ : ∃ K : Int, K = (t.kind : Nat) := ⟨_, rfl⟩
 obtain ⟨S, hS⟩ : ∃ S, S = Xab t.text := ⟨_, rfl⟩
 obtain ⟨U0, hU0⟩ : ∃ U : Int, U = (t.pl : Nat) := ⟨_, rfl⟩
 have HTV : Hid (∀ v, TokV X t v → v = .agg #[.int .i64 K, .string S, .int .i64 U0]) := lh fun v hv => by rw [hK, hS, hU0]; exact hv.1
 obtain ⟨NK, hNK⟩ : ∃ K : Int, K = (nt.kind : Nat) := ⟨_, rfl⟩
 obtain ⟨NS, hNS⟩ : ∃ S, S = Xab nt.text := ⟨_, rfl⟩
 obtain ⟨U, hU⟩ : ∃ U : Int, U = (nt.pl : Nat) := ⟨_, rfl⟩
 have HNS := lh hNS
 have HNL := lh ((h.ok nt (by simp)).2.1)
 have HPP : Hid (∀ w : World, RdAt w B R L (nt :: r) → B ≤ w.heap.size → Calls Tryz.prog 53 #[.pointer (some ⟨R, 0, none⟩)] w fun e w' => e = .returned (.agg #[.int .i64 NK, .string NS, .int .i64 U]) ∧ RdAt w' B R L r ∧ Chg (fun b => b = R) w w') := lh fun w h hB => by rw [hNK, hNS, hU]; exact Xbn h hB
 have HX := lh hX
 have HB := lh hB
 have HBX := lh hbX
 have HRW := lh (show R < w.heap.size by have := h.lt; omega)
 have HU := lh hU
 have HM := lh hM
 have HNM : Hid (decide (kd (nt :: r) = 1) = true) := lh (decide_eq_true hnk)
 have HRM : Hid (Xcc L true k 64 (nt :: r) = .ok () (nt :: r)) := lh (by unfold Xcc; rw [if_pos rfl, if_pos hk])
 have hfT := Xdn
 have hst : S.toList = [108, 111, 99, 107] := by rw [hS, Xad, ht]
 clear h hB hbX hU hU0 hX hS hK hM ht hNK hNS hnk hk
 go_enter Tryz.func31, Tryz.ntmps31
 go_wp2_with fail
 rw [← HX.out]
 refine HP.out.mono ?_
 rintro e w1 ⟨⟨v1, rfl, hv1⟩, hr, hc⟩
 obtain rfl := HTV.out _ hv1
 have HR1 := lh hr
 have HC1 := lh hc
 have HS1 : Hid (B ≤ w1.heap.size) := lh (Nat.le_trans HB.out (Nat.le_trans HBX.out.size hc.size))
 clear hr hc hv1 HP HTK HTV
 go_wp2_with fail
 refine (Xda HR1.out).mono ?_
 rintro e w2 ⟨rfl, hb⟩
 have HR2 := lh (HR1.out.below' HS1.out hb)
 have HC2 := lh (HC1.out.up (Chg.of_below hb))
 have HS2 := lh (Nat.le_trans HS1.out hb.size)
 rw [HNM.out]
 clear hb
 go_wp2_with fail
 have HRO := lh (Xff HR2.out true k 64)
 rw [HRM.out] at HRO
 refine HRO.out.mono ?_
 rintro e w2b ⟨⟨v2, rfl, hv2⟩, hr, hc⟩
 have HR2 := lh hr
 have HC2 := lh (HC2.out.up hc)
 have HS2 := lh (Nat.le_trans HS2.out hc.size)
 clear hr hc hv2 HRO
 go_wp2_with fail
 refine (HPP.out w2b HR2.out HS2.out).mono ?_
 rintro e w3 ⟨rfl, hr, hc⟩
 have HR3 := lh hr
 have HC3 := lh (HC2.out.up hc)
 clear hr hc HPP
 go_upto_region 5 with (fail)
 obtain ⟨Y, hY⟩ : ∃ Y : World, Y = (w3.alloc (.cells #[.int .i64 NK, .string NS, .int .i64 U] 76)).alloc (.cells #[.int .i64 0, .int .i64 U, .int .i64 0, .string NS, .string ⟨#[]⟩, .slice none 0 0, .slice none 0 0] 46) := ⟨_, rfl⟩
 rw [← hY]
 have hf := Xew HB.out HRW.out HX.out HR3.out HC3.out _ hY
 have HF0 := lh hf
 have hn0 : ¬ w.heap.size = w3.heap.size + 1 := by have := hf.lo; omega
 have hn0' : ¬ w3.heap.size + 1 = w.heap.size := fun e => hn0 e.symm
 clear hf hY
 obtain ⟨a0, a1, a2, a3, a4, a5, a6, z0, z1, z2, z3, z4, z5, z6⟩ := row7 HF0.out.row
 obtain ⟨b0, b1, b2, b3, b4, b5, b6, f0, f1, f2, f3, f4, f5, f6⟩ := row7 HF0.out.res
 go_wp2_with fail
 obtain ⟨w_4, hW⟩ : ∃ Z : World, Z = (Y.setCell ⟨w3.heap.size + 1, 0, none⟩ (.int .i64 1)) := ⟨_, rfl⟩
 rw [← hW]
 have HF4 : Hid (Xbt w B R L (w3.heap.size + 1) U NS 1 0 ⟨#[]⟩ (.slice none 0 0) (.slice none 0 0) w_4 _) := lh (by rw [hW]; exact (HF0.out.setK 1))
 have HWS4 : Hid (w_4.heap.size = Y.heap.size) := lh (by rw [hW]; simp [World.setCell])
 clear hW a0 a1 a2 a3 a4 a5 a6 z0 z1 z2 z3 z4 z5 z6 b0 b1 b2 b3 b4 b5 b6 f0 f1 f2 f3 f4 f5 f6
 obtain ⟨a0, a1, a2, a3, a4, a5, a6, z0, z1, z2, z3, z4, z5, z6⟩ := row7 HF4.out.row
 obtain ⟨b0, b1, b2, b3, b4, b5, b6, f0, f1, f2, f3, f4, f5, f6⟩ := row7 HF4.out.res
 have HTN := lh (Xan HF4.out.rd HF4.out.size [[59]] (by simp) (by decide))
 rw [HWS4.out] at HTN
 refine (HTN.out).mono ?_
 rintro e w_5 hp
 cases hx : Xal L [[59]] r with
 | bad p c =>
   have HM := lh (HM.out.trans (Xbc hx))
   rw [hx] at hp
   obtain ⟨rfl, hc⟩ := hp
   have HC5 := lh (HF4.out.chg.up hc)
   clear hx hc
   unfold Xag
   go_wp2
   rw [HM.out]
   exact ⟨rfl, rfl, HC5.out⟩
 | ok xq u5 =>
   have HM := lh (HM.out.trans (Xbi hx))
   rw [hx] at hp
   obtain ⟨⟨v5, rfl, hv⟩, hr, hc⟩ := hp
   have HF5 := lh (HF4.out.step hr hc)
   clear hv
   clear hx hr hc a0 a1 a2 a3 a4 a5 a6 z0 z1 z2 z3 z4 z5 z6 b0 b1 b2 b3 b4 b5 b6 f0 f1 f2 f3 f4 f5 f6
   obtain ⟨a0, a1, a2, a3, a4, a5, a6, z0, z1, z2, z3, z4, z5, z6⟩ := row7 HF5.out.row
   obtain ⟨b0, b1, b2, b3, b4, b5, b6, f0, f1, f2, f3, f4, f5, f6⟩ := row7 HF5.out.res
   go_upto_region 29 with (fail)
   have HFIN := lh (HF5.out.done (Xca.nil _ _) (Xay.nil _ _) (x := ⟨1, nt.pl, 0, nt.text, [], [], []⟩) rfl HU.out rfl HNS.out rfl HNL.out (Nat.zero_le _))
   go_wp2
   refine bodyPost_ret (v := .agg #[.int .i64 1, .int .i64 U, .int .i64 0, .string NS, .string ⟨#[]⟩, (.slice none 0 0), (.slice none 0 0)]) ?_ rfl ?_
   · clear HFIN
     simp [results, Tryz.results31, go_sem, b0, b1, b2, b3, b4, b5, b6]
   · rw [HM.out]
     exact HFIN.out
set_option maxRecDepth 100000 in
set_option maxHeartbeats 2000000 in
theorem Xzi {w : World} {B R L k : Nat} {t nt : Tok} {r : List Tok} (h : RdAt w B R L (t :: nt :: r)) (hB : B ≤ w.heap.size) (hk : k < 64) (hnk : nt.kind = 1) (ht : t.text = [105, 110, 112, 117, 116])
  {T : Rd Dc} (hM : T = Xgk L ⟨5, nt.pl, 0, nt.text, [], [], []⟩ r) : Calls Tryz.prog 31 #[.pointer (some ⟨R, 0, none⟩), .int .i64 (k : Nat)] w (Xaj (DcB w.heap.size) w B R L T) := by
 obtain ⟨X, hX⟩ : ∃ X : World, X = w.alloc (.cells #[.int .i64 0, .int .i64 0, .int .i64 0, .string ⟨#[]⟩, .string ⟨#[]⟩, .slice none 0 0, .slice none 0 0] 46) := ⟨_, rfl⟩
 have hbX : Below w.heap.size w X := by rw [hX]; exact Xae _ _
 have HP := lh (Xan (h.below' hB hbX) (Nat.le_trans hB hbX.size) [[108, 111, 99, 107], [99, 104, 97, 110], [115, 116, 114, 117, 99, 116], [118, 97, 114], [105, 110, 112, 117, 116], [115, 105, 110, 107], [102, 117, 110, 99], [116, 104, 114, 101, 97, 100]] (by simp) (by decide))
 have HTK : Hid (Xal L [[108, 111, 99, 107], [99, 104, 97, 110], [115, 116, 114, 117, 99, 116], [118, 97, 114], [105, 110, 112, 117, 116], [115, 105, 110, 107], [102, 117, 110, 99], [116, 104, 114, 101, 97, 100]] (t :: nt :: r) = .ok t (nt :: r)) := lh (by rw [Xal, if_pos (by rw [ht]; decide)])
 rw [HTK.out, show X.heap.size = w.heap.size + 1 by rw [hX]; simp] at HP
 obtain ⟨K, hK⟩ : ∃ K : Int, K = (t.kind : Nat) := ⟨_, rfl⟩
 obtain ⟨S, hS⟩ : ∃ S, S = Xab t.text := ⟨_, rfl⟩
 obtain ⟨U0, hU0⟩ : ∃ U : Int, U = (t.pl : Nat) := ⟨_, rfl⟩
 have HTV : Hid (∀ v, TokV X t v → v = .agg #[.int .i64 K, .string S, .int .i64 U0]) := lh fun v hv => by rw [hK, hS, hU0]; exact hv.1
 obtain ⟨NK, hNK⟩ : ∃ K : Int, K = (nt.kind : Nat) := ⟨_, rfl⟩
 obtain ⟨NS, hNS⟩ : ∃ S, S = Xab nt.text := ⟨_, rfl⟩
 obtain ⟨U, hU⟩ : ∃ U : Int, U = (nt.pl : Nat) := ⟨_, rfl⟩
 have HNS := lh hNS
 have HNL := lh ((h.ok nt (by simp)).2.1)
 have HPP : Hid (∀ w : World, RdAt w B R L (nt :: r) → B ≤ w.heap.size → Calls Tryz.prog 53 #[.pointer (some ⟨R, 0, none⟩)] w fun e w' => e = .returned (.agg #[.int .i64 NK, .string NS, .int .i64 U]) ∧ RdAt w' B R L r ∧ Chg (fun b => b = R) w w') := lh fun w h hB => by rw [hNK, hNS, hU]; exact Xbn h hB
 have HX := lh hX
 have HB := lh hB
 have HBX := lh hbX
 have HRW := lh (show R < w.heap.size by have := h.lt; omega)
 have HU := lh hU
 have HM := lh hM
 have HNM : Hid (decide (kd (nt :: r) = 1) = true) := lh (decide_eq_true hnk)
 have HRM : Hid (Xcc L true k 64 (nt :: r) = .ok () (nt :: r)) := lh (by unfold Xcc; rw [if_pos rfl, if_pos hk])
 have hfT := Xdn
 have hst : S.toList = [105, 110, 112, 117, 116] := by rw [hS, Xad, ht]
 clear h hB hbX hU hU0 hX hS hK hM ht hNK hNS hnk hk
 go_enter Tryz.func31, Tryz.ntmps31
 go_wp2_with fail
 rw [← HX.out]
 refine HP.out.mono ?_
 rintro e w1 ⟨⟨v1, rfl, hv1⟩, hr, hc⟩
 obtain rfl := HTV.out _ hv1
 have HR1 := lh hr
 have HC1 := lh hc
 have HS1 : Hid (B ≤ w1.heap.size) := lh (Nat.le_trans HB.out (Nat.le_trans HBX.out.size hc.size))
 clear hr hc hv1 HP HTK HTV
 go_wp2_with fail
 refine (Xda HR1.out).mono ?_
 rintro e w2 ⟨rfl, hb⟩
 have HR2 := lh (HR1.out.below' HS1.out hb)
 have HC2 := lh (HC1.out.up (Chg.of_below hb))
 have HS2 := lh (Nat.le_trans HS1.out hb.size)
 rw [HNM.out]
 clear hb
 go_wp2_with fail
 have HRO := lh (Xff HR2.out true k 64)
 rw [HRM.out] at HRO
 refine HRO.out.mono ?_
 rintro e w2b ⟨⟨v2, rfl, hv2⟩, hr, hc⟩
 have HR2 := lh hr
 have HC2 := lh (HC2.out.up hc)
 have HS2 := lh (Nat.le_trans HS2.out hc.size)
 clear hr hc hv2 HRO
 go_wp2_with fail
 refine (HPP.out w2b HR2.out HS2.out).mono ?_
 rintro e w3 ⟨rfl, hr, hc⟩
 have HR3 := lh hr
 have HC3 := lh (HC2.out.up hc)
 clear hr hc HPP
 go_upto_region 5 with (fail)
 obtain ⟨Y, hY⟩ : ∃ Y : World, Y = (w3.alloc (.cells #[.int .i64 NK, .string NS, .int .i64 U] 76)).alloc (.cells #[.int .i64 0, .int .i64 U, .int .i64 0, .string NS, .string ⟨#[]⟩, .slice none 0 0, .slice none 0 0] 46) := ⟨_, rfl⟩
 rw [← hY]
 have hf := Xew HB.out HRW.out HX.out HR3.out HC3.out _ hY
 have HF0 := lh hf
 have hn0 : ¬ w.heap.size = w3.heap.size + 1 := by have := hf.lo; omega
 have hn0' : ¬ w3.heap.size + 1 = w.heap.size := fun e => hn0 e.symm
 clear hf hY
 obtain ⟨a0, a1, a2, a3, a4, a5, a6, z0, z1, z2, z3, z4, z5, z6⟩ := row7 HF0.out.row
 obtain ⟨b0, b1, b2, b3, b4, b5, b6, f0, f1, f2, f3, f4, f5, f6⟩ := row7 HF0.out.res
 go_wp2_with fail
 obtain ⟨w_4, hW⟩ : ∃ Z : World, Z = (Y.setCell ⟨w3.heap.size + 1, 0, none⟩ (.int .i64 5)) := ⟨_, rfl⟩
 rw [← hW]
 have HF4 : Hid (Xbt w B R L (w3.heap.size + 1) U NS 5 0 ⟨#[]⟩ (.slice none 0 0) (.slice none 0 0) w_4 _) := lh (by rw [hW]; exact (HF0.out.setK 5))
 have HWS4 : Hid (w_4.heap.size = Y.heap.size) := lh (by rw [hW]; simp [World.setCell])
 clear hW a0 a1 a2 a3 a4 a5 a6 z0 z1 z2 z3 z4 z5 z6 b0 b1 b2 b3 b4 b5 b6 f0 f1 f2 f3 f4 f5 f6
 obtain ⟨a0, a1, a2, a3, a4, a5, a6, z0, z1, z2, z3, z4, z5, z6⟩ := row7 HF4.out.row
 obtain ⟨b0, b1, b2, b3, b4, b5, b6, f0, f1, f2, f3, f4, f5, f6⟩ := row7 HF4.out.res
 have HTN := lh (Xan HF4.out.rd HF4.out.size [[59]] (by simp) (by decide))
 rw [HWS4.out] at HTN
 refine (HTN.out).mono ?_
 rintro e w_5 hp
 cases hx : Xal L [[59]] r with
 | bad p c =>
   have HM := lh (HM.out.trans (Xbc hx))
   rw [hx] at hp
   obtain ⟨rfl, hc⟩ := hp
   have HC5 := lh (HF4.out.chg.up hc)
   clear hx hc
   unfold Xag
   go_wp2
   rw [HM.out]
   exact ⟨rfl, rfl, HC5.out⟩
 | ok xq u5 =>
   have HM := lh (HM.out.trans (Xbi hx))
   rw [hx] at hp
   obtain ⟨⟨v5, rfl, hv⟩, hr, hc⟩ := hp
   have HF5 := lh (HF4.out.step hr hc)
   clear hv
   clear hx hr hc a0 a1 a2 a3 a4 a5 a6 z0 z1 z2 z3 z4 z5 z6 b0 b1 b2 b3 b4 b5 b6 f0 f1 f2 f3 f4 f5 f6
   obtain ⟨a0, a1, a2, a3, a4, a5, a6, z0, z1, z2, z3, z4, z5, z6⟩ := row7 HF5.out.row
   obtain ⟨b0, b1, b2, b3, b4, b5, b6, f0, f1, f2, f3, f4, f5, f6⟩ := row7 HF5.out.res
   go_upto_region 29 with (fail)
   have HFIN := lh (HF5.out.done (Xca.nil _ _) (Xay.nil _ _) (x := ⟨5, nt.pl, 0, nt.text, [], [], []⟩) rfl HU.out rfl HNS.out rfl HNL.out (Nat.zero_le _))
   go_wp2
   refine bodyPost_ret (v := .agg #[.int .i64 5, .int .i64 U, .int .i64 0, .string NS, .string ⟨#[]⟩, (.slice none 0 0), (.slice none 0 0)]) ?_ rfl ?_
   · clear HFIN
     simp [results, Tryz.results31, go_sem, b0, b1, b2, b3, b4, b5, b6]
   · rw [HM.out]
     exact HFIN.out
set_option maxRecDepth 100000 in
set_option maxHeartbeats 2000000 in
theorem Ych {w : World} {B R L k : Nat} {t nt : Tok} {r : List Tok} (h : RdAt w B R L (t :: nt :: r)) (hB : B ≤ w.heap.size) (hk : k < 64) (hnk : nt.kind = 1) (ht : t.text = [115, 105, 110, 107])
  {T : Rd Dc} (hM : T = Xgk L ⟨6, nt.pl, 0, nt.text, [], [], []⟩ r) : Calls Tryz.prog 31 #[.pointer (some ⟨R, 0, none⟩), .int .i64 (k : Nat)] w (Xaj (DcB w.heap.size) w B R L T) := by
 obtain ⟨X, hX⟩ : ∃ X : World, X = w.alloc (.cells #[.int .i64 0, .int .i64 0, .int .i64 0, .string ⟨#[]⟩, .string ⟨#[]⟩, .slice none 0 0, .slice none 0 0] 46) := ⟨_, rfl⟩
 have hbX : Below w.heap.size w X := by rw [hX]; exact Xae _ _
 have HP := lh (Xan (h.below' hB hbX) (Nat.le_trans hB hbX.size) [[108, 111, 99, 107], [99, 104, 97, 110], [115, 116, 114, 117, 99, 116], [118, 97, 114], [105, 110, 112, 117, 116], [115, 105, 110, 107], [102, 117, 110, 99], [116, 104, 114, 101, 97, 100]] (by simp) (by decide))
 have HTK : Hid (Xal L [[108, 111, 99, 107], [99, 104, 97, 110], [115, 116, 114, 117, 99, 116], [118, 97, 114], [105, 110, 112, 117, 116], [115, 105, 110, 107], [102, 117, 110, 99], [116, 104, 114, 101, 97, 100]] (t :: nt :: r) = .ok t (nt :: r)) := lh (by rw [Xal, if_pos (by rw [ht]; decide)])
 rw [HTK.out, show X.heap.size = w.heap.size + 1 by rw [hX]; simp] at HP
 obtain ⟨K, hK⟩ : ∃ K : Int, K = (t.kind : Nat) := ⟨_, rfl⟩
 obtain ⟨S, hS⟩ : ∃ S, S = Xab t.text := ⟨_, rfl⟩
 obtain ⟨U0, hU0⟩ : ∃ U : Int, U = (t.pl : Nat) := ⟨_, rfl⟩
 have HTV : Hid (∀ v, TokV X t v → v = .agg #[.int .i64 K, .string S, .int .i64 U0]) := lh fun v hv => by rw [hK, hS, hU0]; exact hv.1
 obtain ⟨NK, hNK⟩ : ∃ K : Int, K = (nt.kind : Nat) := ⟨_, rfl⟩
 obtain ⟨NS, hNS⟩ : ∃ S, S = Xab nt.text := ⟨_, rfl⟩
 obtain ⟨U, hU⟩ : ∃ U : Int, U = (nt.pl : Nat) := ⟨_, rfl⟩
 have HNS := lh hNS
 have HNL := lh ((h.ok nt (by simp)).2.1)
 have HPP : Hid (∀ w : World, RdAt w B R L (nt :: r) → B ≤ w.heap.size → Calls Tryz.prog 53 #[.pointer (some ⟨R, 0, none⟩)] w fun e w' => e = .returned (.agg #[.int .i64 NK, .string NS, .int .i64 U]) ∧ RdAt w' B R L r ∧ Chg (fun b => b = R) w w') := lh fun w h hB => by rw [hNK, hNS, hU]; exact Xbn h hB
 have HX := lh hX
 have HB := lh hB
 have HBX := lh hbX
 have HRW := lh (show R < w.heap.size by have := h.lt; omega)
 have HU := lh hU
 have HM := lh hM
 have HNM : Hid (decide (kd (nt :: r) = 1) = true) := lh (decide_eq_true hnk)
 have HRM : Hid (Xcc L true k 64 (nt :: r) = .ok () (nt :: r)) := lh (by unfold Xcc; rw [if_pos rfl, if_pos hk])
 have hfT := Xdn
 have hst : S.toList = [115, 105, 110, 107] := by rw [hS, Xad, ht]
 clear h hB hbX hU hU0 hX hS hK hM ht hNK hNS hnk hk
 go_enter Tryz.func31, Tryz.ntmps31
 go_wp2_with fail
 rw [← HX.out]
 refine HP.out.mono ?_
 rintro e w1 ⟨⟨v1, rfl, hv1⟩, hr, hc⟩
 obtain rfl := HTV.out _ hv1
 have HR1 := lh hr
 have HC1 := lh hc
 have HS1 : Hid (B ≤ w1.heap.size) := lh (Nat.le_trans HB.out (Nat.le_trans HBX.out.size hc.size))
 clear hr hc hv1 HP HTK HTV
 go_wp2_with fail
 refine (Xda HR1.out).mono ?_
 rintro e w2 ⟨rfl, hb⟩
 have HR2 := lh (HR1.out.below' HS1.out hb)
 have HC2 := lh (HC1.out.up (Chg.of_below hb))
 have HS2 := lh (Nat.le_trans HS1.out hb.size)
 rw [HNM.out]
 clear hb
 go_wp2_with fail
 have HRO := lh (Xff HR2.out true k 64)
 rw [HRM.out] at HRO
 refine HRO.out.mono ?_
 rintro e w2b ⟨⟨v2, rfl, hv2⟩, hr, hc⟩
 have HR2 := lh hr
 have HC2 := lh (HC2.out.up hc)
 have HS2 := lh (Nat.le_trans HS2.out hc.size)
 clear hr hc hv2 HRO
 go_wp2_with fail
 refine (HPP.out w2b HR2.out HS2.out).mono ?_
 rintro e w3 ⟨rfl, hr, hc⟩
 have HR3 := lh hr
 have HC3 := lh (HC2.out.up hc)
 clear hr hc HPP
 go_upto_region 5 with (fail)
 obtain ⟨Y, hY⟩ : ∃ Y : World, Y = (w3.alloc (.cells #[.int .i64 NK, .string NS, .int .i64 U] 76)).alloc (.cells #[.int .i64 0, .int .i64 U, .int .i64 0, .string NS, .string ⟨#[]⟩, .slice none 0 0, .slice none 0 0] 46) := ⟨_, rfl⟩
 rw [← hY]
 have hf := Xew HB.out HRW.out HX.out HR3.out HC3.out _ hY
 have HF0 := lh hf
 have hn0 : ¬ w.heap.size = w3.heap.size + 1 := by have := hf.lo; omega
 have hn0' : ¬ w3.heap.size + 1 = w.heap.size := fun e => hn0 e.symm
 clear hf hY
 obtain ⟨a0, a1, a2, a3, a4, a5, a6, z0, z1, z2, z3, z4, z5, z6⟩ := row7 HF0.out.row
 obtain ⟨b0, b1, b2, b3, b4, b5, b6, f0, f1, f2, f3, f4, f5, f6⟩ := row7 HF0.out.res
 go_wp2_with fail
 obtain ⟨w_4, hW⟩ : ∃ Z : World, Z = (Y.setCell ⟨w3.heap.size + 1, 0, none⟩ (.int .i64 6)) := ⟨_, rfl⟩
 rw [← hW]
 have HF4 : Hid (Xbt w B R L (w3.heap.size + 1) U NS 6 0 ⟨#[]⟩ (.slice none 0 0) (.slice none 0 0) w_4 _) := lh (by rw [hW]; exact (HF0.out.setK 6))
 have HWS4 : Hid (w_4.heap.size = Y.heap.size) := lh (by rw [hW]; simp [World.setCell])
 clear hW a0 a1 a2 a3 a4 a5 a6 z0 z1 z2 z3 z4 z5 z6 b0 b1 b2 b3 b4 b5 b6 f0 f1 f2 f3 f4 f5 f6
 obtain ⟨a0, a1, a2, a3, a4, a5, a6, z0, z1, z2, z3, z4, z5, z6⟩ := row7 HF4.out.row
 obtain ⟨b0, b1, b2, b3, b4, b5, b6, f0, f1, f2, f3, f4, f5, f6⟩ := row7 HF4.out.res
 have HTN := lh (Xan HF4.out.rd HF4.out.size [[59]] (by simp) (by decide))
 rw [HWS4.out] at HTN
 refine (HTN.out).mono ?_
 rintro e w_5 hp
 cases hx : Xal L [[59]] r with
 | bad p c =>
   have HM := lh (HM.out.trans (Xbc hx))
   rw [hx] at hp
   obtain ⟨rfl, hc⟩ := hp
   have HC5 := lh (HF4.out.chg.up hc)
   clear hx hc
   unfold Xag
   go_wp2
   rw [HM.out]
   exact ⟨rfl, rfl, HC5.out⟩
 | ok xq u5 =>
   have HM := lh (HM.out.trans (Xbi hx))
   rw [hx] at hp
   obtain ⟨⟨v5, rfl, hv⟩, hr, hc⟩ := hp
   have HF5 := lh (HF4.out.step hr hc)
   clear hv
   clear hx hr hc a0 a1 a2 a3 a4 a5 a6 z0 z1 z2 z3 z4 z5 z6 b0 b1 b2 b3 b4 b5 b6 f0 f1 f2 f3 f4 f5 f6
   obtain ⟨a0, a1, a2, a3, a4, a5, a6, z0, z1, z2, z3, z4, z5, z6⟩ := row7 HF5.out.row
   obtain ⟨b0, b1, b2, b3, b4, b5, b6, f0, f1, f2, f3, f4, f5, f6⟩ := row7 HF5.out.res
   go_upto_region 29 with (fail)
   have HFIN := lh (HF5.out.done (Xca.nil _ _) (Xay.nil _ _) (x := ⟨6, nt.pl, 0, nt.text, [], [], []⟩) rfl HU.out rfl HNS.out rfl HNL.out (Nat.zero_le _))
   go_wp2
   refine bodyPost_ret (v := .agg #[.int .i64 6, .int .i64 U, .int .i64 0, .string NS, .string ⟨#[]⟩, (.slice none 0 0), (.slice none 0 0)]) ?_ rfl ?_
   · clear HFIN
     simp [results, Tryz.results31, go_sem, b0, b1, b2, b3, b4, b5, b6]
   · rw [HM.out]
     exact HFIN.out
set_option maxRecDepth 100000 in
set_option maxHeartbeats 2000000 in
theorem decl_var {w : World} {B R L k : Nat} {t nt : Tok} {r : List Tok} (h : RdAt w B R L (t :: nt :: r)) (hB : B ≤ w.heap.size) (hk : k < 64) (hnk : nt.kind = 1) (ht : t.text = [118, 97, 114])
  {T : Rd Dc} (hM : T = (Xem L r).bind fun y r2 => Xgk L ⟨4, nt.pl, 0, nt.text, y, [], []⟩ r2) : Calls Tryz.prog 31 #[.pointer (some ⟨R, 0, none⟩), .int .i64 (k : Nat)] w (Xaj (DcB w.heap.size) w B R L T) := by
 obtain ⟨X, hX⟩ : ∃ X : World, X = w.alloc (.cells #[.int .i64 0, .int .i64 0, .int .i64 0, .string ⟨#[]⟩, .string ⟨#[]⟩, .slice none 0 0, .slice none 0 0] 46) := ⟨_, rfl⟩
 have hbX : Below w.heap.size w X := by rw [hX]; exact Xae _ _
 have HP := lh (Xan (h.below' hB hbX) (Nat.le_trans hB hbX.size) [[108, 111, 99, 107], [99, 104, 97, 110], [115, 116, 114, 117, 99, 116], [118, 97, 114], [105, 110, 112, 117, 116], [115, 105, 110, 107], [102, 117, 110, 99], [116, 104, 114, 101, 97, 100]] (by simp) (by decide))
 have HTK : Hid (Xal L [[108, 111, 99, 107], [99, 104, 97, 110], [115, 116, 114, 117, 99, 116], [118, 97, 114], [105, 110, 112, 117, 116], [115, 105, 110, 107], [102, 117, 110, 99], [116, 104, 114, 101, 97, 100]] (t :: nt :: r) = .ok t (nt :: r)) := lh (by rw [Xal, if_pos (by rw [ht]; decide)])
 rw [HTK.out, show X.heap.size = w.heap.size + 1 by rw [hX]; simp] at HP
 obtain ⟨K, hK⟩ : ∃ K : Int, K = (t.kind : Nat) := ⟨_, rfl⟩
 obtain ⟨S, hS⟩ : ∃ S, S = Xab t.text := ⟨_, rfl⟩
 obtain ⟨U0, hU0⟩ : ∃ U : Int, U = (t.pl : Nat) := ⟨_, rfl⟩
 have HTV : Hid (∀ v, TokV X t v → v = .agg #[.int .i64 K, .string S, .int .i64 U0]) := lh fun v hv => by rw [hK, hS, hU0]; exact hv.1
 obtain ⟨NK, hNK⟩ : ∃ K : Int, K = (nt.kind : Nat) := ⟨_, rfl⟩
 obtain ⟨NS, hNS⟩ : ∃ S, S = Xab nt.text := ⟨_, rfl⟩
 obtain ⟨U, hU⟩ : ∃ U : Int, U = (nt.pl : Nat) := ⟨_, rfl⟩
 have HNS := lh hNS
 have HNL := lh ((h.ok nt (by simp)).2.1)
 have HPP : Hid (∀ w : World, RdAt w B R L (nt :: r) → B ≤ w.heap.size → Calls Tryz.prog 53 #[.pointer (some ⟨R, 0, none⟩)] w fun e w' => e = .returned (.agg #[.int .i64 NK, .string NS, .int .i64 U]) ∧ RdAt w' B R L r ∧ Chg (fun b => b = R) w w') := lh fun w h hB => by rw [hNK, hNS, hU]; exact Xbn h hB
 have HX := lh hX
 have HB := lh hB
 have HBX := lh hbX
 have HRW := lh (show R < w.heap.size by have := h.lt; omega)
 have HU := lh hU
 have HM := lh hM
 have HNM : Hid (decide (kd (nt :: r) = 1) = true) := lh (decide_eq_true hnk)
 have HRM : Hid (Xcc L true k 64 (nt :: r) = .ok () (nt :: r)) := lh (by unfold Xcc; rw [if_pos rfl, if_pos hk])
 have hfT := Xdn
 have hst : S.toList = [118, 97, 114] := by rw [hS, Xad, ht]
 clear h hB hbX hU hU0 hX hS hK hM ht hNK hNS hnk hk
 go_enter Tryz.func31, Tryz.ntmps31
 go_wp2_with fail
 rw [← HX.out]
 refine HP.out.mono ?_
 rintro e w1 ⟨⟨v1, rfl, hv1⟩, hr, hc⟩
 obtain rfl := HTV.out _ hv1
 have HR1 := lh hr
 have HC1 := lh hc
 have HS1 : Hid (B ≤ w1.heap.size) := lh (Nat.le_trans HB.out (Nat.le_trans HBX.out.size hc.size))
 clear hr hc hv1 HP HTK HTV
 go_wp2_with fail
 refine (Xda HR1.out).mono ?_
 rintro e w2 ⟨rfl, hb⟩
 have HR2 := lh (HR1.out.below' HS1.out hb)
 have HC2 := lh (HC1.out.up (Chg.of_below hb))
 have HS2 := lh (Nat.le_trans HS1.out hb.size)
 rw [HNM.out]
 clear hb
 go_wp2_with fail
 have HRO := lh (Xff HR2.out true k 64)
 rw [HRM.out] at HRO
 refine HRO.out.mono ?_
 rintro e w2b ⟨⟨v2, rfl, hv2⟩, hr, hc⟩
 have HR2 := lh hr
 have HC2 := lh (HC2.out.up hc)
 have HS2 := lh (Nat.le_trans HS2.out hc.size)
 clear hr hc hv2 HRO
 go_wp2_with fail
 refine (HPP.out w2b HR2.out HS2.out).mono ?_
 rintro e w3 ⟨rfl, hr, hc⟩
 have HR3 := lh hr
 have HC3 := lh (HC2.out.up hc)
 clear hr hc HPP
 go_upto_region 5 with (fail)
 obtain ⟨Y, hY⟩ : ∃ Y : World, Y = (w3.alloc (.cells #[.int .i64 NK, .string NS, .int .i64 U] 76)).alloc (.cells #[.int .i64 0, .int .i64 U, .int .i64 0, .string NS, .string ⟨#[]⟩, .slice none 0 0, .slice none 0 0] 46) := ⟨_, rfl⟩
 rw [← hY]
 have hf := Xew HB.out HRW.out HX.out HR3.out HC3.out _ hY
 have HF0 := lh hf
 have hn0 : ¬ w.heap.size = w3.heap.size + 1 := by have := hf.lo; omega
 have hn0' : ¬ w3.heap.size + 1 = w.heap.size := fun e => hn0 e.symm
 clear hf hY
 obtain ⟨a0, a1, a2, a3, a4, a5, a6, z0, z1, z2, z3, z4, z5, z6⟩ := row7 HF0.out.row
 obtain ⟨b0, b1, b2, b3, b4, b5, b6, f0, f1, f2, f3, f4, f5, f6⟩ := row7 HF0.out.res
 go_wp2_with fail
 refine (Xjb HF0.out.rd HF0.out.size).mono ?_
 rintro e w_4 hp
 cases hx : Xem L r with
 | bad p c =>
   have HM := lh (HM.out.trans (Xam hx))
   rw [hx] at hp
   obtain ⟨rfl, hc⟩ := hp
   have HC4 := lh (HF0.out.chg.up hc)
   clear hx hc
   unfold Xag
   go_wp2
   rw [HM.out]
   exact ⟨rfl, rfl, HC4.out⟩
 | ok x1 u4 =>
   have HM := lh (HM.out.trans (Xap hx))
   rw [hx] at hp
   obtain ⟨⟨v4, rfl, hv⟩, hr, hc⟩ := hp
   have HF4 := lh (HF0.out.step hr hc)
   obtain ⟨rfl, hl⟩ := hv
   have HLx1 := lh hl
   clear hl
   clear hx hr hc a0 a1 a2 a3 a4 a5 a6 z0 z1 z2 z3 z4 z5 z6 b0 b1 b2 b3 b4 b5 b6 f0 f1 f2 f3 f4 f5 f6
   obtain ⟨a0, a1, a2, a3, a4, a5, a6, z0, z1, z2, z3, z4, z5, z6⟩ := row7 HF4.out.row
   obtain ⟨b0, b1, b2, b3, b4, b5, b6, f0, f1, f2, f3, f4, f5, f6⟩ := row7 HF4.out.res
   go_wp2_with fail
   obtain ⟨w_5, hW⟩ : ∃ Z : World, Z = ((w_4.setCell ⟨w3.heap.size + 1, 0, none⟩ (.int .i64 4)).setCell ⟨w3.heap.size + 1, 4, none⟩ (.string (Xab x1))) := ⟨_, rfl⟩
   rw [← hW]
   have HF5 : Hid (Xbt w B R L (w3.heap.size + 1) U NS 4 0 (Xab x1) (.slice none 0 0) (.slice none 0 0) w_5 _) := lh (by rw [hW]; exact ((HF4.out.setK 4).setT (Xab x1)))
   have HWS5 : Hid (w_5.heap.size = w_4.heap.size) := lh (by rw [hW]; simp [World.setCell])
   clear hW a0 a1 a2 a3 a4 a5 a6 z0 z1 z2 z3 z4 z5 z6 b0 b1 b2 b3 b4 b5 b6 f0 f1 f2 f3 f4 f5 f6
   obtain ⟨a0, a1, a2, a3, a4, a5, a6, z0, z1, z2, z3, z4, z5, z6⟩ := row7 HF5.out.row
   obtain ⟨b0, b1, b2, b3, b4, b5, b6, f0, f1, f2, f3, f4, f5, f6⟩ := row7 HF5.out.res
   have HTN := lh (Xan HF5.out.rd HF5.out.size [[59]] (by simp) (by decide))
   rw [HWS5.out] at HTN
   refine (HTN.out).mono ?_
   rintro e w_6 hp
   cases hx : Xal L [[59]] u4 with
   | bad p c =>
     have HM := lh (HM.out.trans (Xbc hx))
     rw [hx] at hp
     obtain ⟨rfl, hc⟩ := hp
     have HC6 := lh (HF5.out.chg.up hc)
     clear hx hc
     unfold Xag
     go_wp2
     rw [HM.out]
     exact ⟨rfl, rfl, HC6.out⟩
   | ok xq u6 =>
     have HM := lh (HM.out.trans (Xbi hx))
     rw [hx] at hp
     obtain ⟨⟨v6, rfl, hv⟩, hr, hc⟩ := hp
     have HF6 := lh (HF5.out.step hr hc)
     clear hv
     clear hx hr hc a0 a1 a2 a3 a4 a5 a6 z0 z1 z2 z3 z4 z5 z6 b0 b1 b2 b3 b4 b5 b6 f0 f1 f2 f3 f4 f5 f6
     obtain ⟨a0, a1, a2, a3, a4, a5, a6, z0, z1, z2, z3, z4, z5, z6⟩ := row7 HF6.out.row
     obtain ⟨b0, b1, b2, b3, b4, b5, b6, f0, f1, f2, f3, f4, f5, f6⟩ := row7 HF6.out.res
     go_upto_region 29 with (fail)
     have HFIN := lh (HF6.out.done (Xca.nil _ _) (Xay.nil _ _) (x := ⟨4, nt.pl, 0, nt.text, x1, [], []⟩) rfl HU.out rfl HNS.out rfl HNL.out HLx1.out)
     go_wp2
     refine bodyPost_ret (v := .agg #[.int .i64 4, .int .i64 U, .int .i64 0, .string NS, .string (Xab x1), (.slice none 0 0), (.slice none 0 0)]) ?_ rfl ?_
     · clear HFIN
       simp [results, Tryz.results31, go_sem, b0, b1, b2, b3, b4, b5, b6]
     · rw [HM.out]
       exact HFIN.out
set_option maxRecDepth 100000 in
set_option maxHeartbeats 2000000 in
theorem Ycc {w : World} {B R L k : Nat} {t nt : Tok} {r : List Tok} (h : RdAt w B R L (t :: nt :: r)) (hB : B ≤ w.heap.size) (hk : k < 64) (hnk : nt.kind = 1) (ht : t.text = [99, 104, 97, 110])
  {T : Rd Dc} (hM : T = (Xby L r).bind fun n r2 => Xgk L ⟨2, nt.pl, n, nt.text, [], [], []⟩ r2) : Calls Tryz.prog 31 #[.pointer (some ⟨R, 0, none⟩), .int .i64 (k : Nat)] w (Xaj (DcB w.heap.size) w B R L T) := by
 obtain ⟨X, hX⟩ : ∃ X : World, X = w.alloc (.cells #[.int .i64 0, .int .i64 0, .int .i64 0, .string ⟨#[]⟩, .string ⟨#[]⟩, .slice none 0 0, .slice none 0 0] 46) := ⟨_, rfl⟩
 have hbX : Below w.heap.size w X := by rw [hX]; exact Xae _ _
 have HP := lh (Xan (h.below' hB hbX) (Nat.le_trans hB hbX.size) [[108, 111, 99, 107], [99, 104, 97, 110], [115, 116, 114, 117, 99, 116], [118, 97, 114], [105, 110, 112, 117, 116], [115, 105, 110, 107], [102, 117, 110, 99], [116, 104, 114, 101, 97, 100]] (by simp) (by decide))
 have HTK : Hid (Xal L [[108, 111, 99, 107], [99, 104, 97, 110], [115, 116, 114, 117, 99, 116], [118, 97, 114], [105, 110, 112, 117, 116], [115, 105, 110, 107], [102, 117, 110, 99], [116, 104, 114, 101, 97, 100]] (t :: nt :: r) = .ok t (nt :: r)) := lh (by rw [Xal, if_pos (by rw [ht]; decide)])
 rw [HTK.out, show X.heap.size = w.heap.size + 1 by rw [hX]; simp] at HP
 obtain ⟨K, hK⟩ : ∃ K : Int, K = (t.kind : Nat) := ⟨_, rfl⟩
 obtain ⟨S, hS⟩ : ∃ S, S = Xab t.text := ⟨_, rfl⟩
 obtain ⟨U0, hU0⟩ : ∃ U : Int, U = (t.pl : Nat) := ⟨_, rfl⟩
 have HTV : Hid (∀ v, TokV X t v → v = .agg #[.int .i64 K, .string S, .int .i64 U0]) := lh fun v hv => by rw [hK, hS, hU0]; exact hv.1
 obtain ⟨NK, hNK⟩ : ∃ K : Int, K = (nt.kind : Nat) := ⟨_, rfl⟩
 obtain ⟨NS, hNS⟩ : ∃ S, S = Xab nt.text := ⟨_, rfl⟩
 obtain ⟨U, hU⟩ : ∃ U : Int, U = (nt.pl : Nat) := ⟨_, rfl⟩
 have HNS := lh hNS
 have HNL := lh ((h.ok nt (by simp)).2.1)
 have HPP : Hid (∀ w : World, RdAt w B R L (nt :: r) → B ≤ w.heap.size → Calls Tryz.prog 53 #[.pointer (some ⟨R, 0, none⟩)] w fun e w' => e = .returned (.agg #[.int .i64 NK, .string NS, .int .i64 U]) ∧ RdAt w' B R L r ∧ Chg (fun b => b = R) w w') := lh fun w h hB => by rw [hNK, hNS, hU]; exact Xbn h hB
 have HX := lh hX
 have HB := lh hB
 have HBX := lh hbX
 have HRW := lh (show R < w.heap.size by have := h.lt; omega)
 have HU := lh hU
 have HM := lh hM
 have HNM : Hid (decide (kd (nt :: r) = 1) = true) := lh (decide_eq_true hnk)
 have HRM : Hid (Xcc L true k 64 (nt :: r) = .ok () (nt :: r)) := lh (by unfold Xcc; rw [if_pos rfl, if_pos hk])
 have hfT := Xdn
 have hst : S.toList = [99, 104, 97, 110] := by rw [hS, Xad, ht]
 clear h hB hbX hU hU0 hX hS hK hM ht hNK hNS hnk hk
 go_enter Tryz.func31, Tryz.ntmps31
 go_wp2_with fail
 rw [← HX.out]
 refine HP.out.mono ?_
 rintro e w1 ⟨⟨v1, rfl, hv1⟩, hr, hc⟩
 obtain rfl := HTV.out _ hv1
 have HR1 := lh hr
 have HC1 := lh hc
 have HS1 : Hid (B ≤ w1.heap.size) := lh (Nat.le_trans HB.out (Nat.le_trans HBX.out.size hc.size))
 clear hr hc hv1 HP HTK HTV
 go_wp2_with fail
 refine (Xda HR1.out).mono ?_
 rintro e w2 ⟨rfl, hb⟩
 have HR2 := lh (HR1.out.below' HS1.out hb)
 have HC2 := lh (HC1.out.up (Chg.of_below hb))
 have HS2 := lh (Nat.le_trans HS1.out hb.size)
 rw [HNM.out]
 clear hb
 go_wp2_with fail
 have HRO := lh (Xff HR2.out true k 64)
 rw [HRM.out] at HRO
 refine HRO.out.mono ?_
 rintro e w2b ⟨⟨v2, rfl, hv2⟩, hr, hc⟩
 have HR2 := lh hr
 have HC2 := lh (HC2.out.up hc)
 have HS2 := lh (Nat.le_trans HS2.out hc.size)
 clear hr hc hv2 HRO
 go_wp2_with fail
 refine (HPP.out w2b HR2.out HS2.out).mono ?_
 rintro e w3 ⟨rfl, hr, hc⟩
 have HR3 := lh hr
 have HC3 := lh (HC2.out.up hc)
 clear hr hc HPP
 go_upto_region 5 with (fail)
 obtain ⟨Y, hY⟩ : ∃ Y : World, Y = (w3.alloc (.cells #[.int .i64 NK, .string NS, .int .i64 U] 76)).alloc (.cells #[.int .i64 0, .int .i64 U, .int .i64 0, .string NS, .string ⟨#[]⟩, .slice none 0 0, .slice none 0 0] 46) := ⟨_, rfl⟩
 rw [← hY]
 have hf := Xew HB.out HRW.out HX.out HR3.out HC3.out _ hY
 have HF0 := lh hf
 have hn0 : ¬ w.heap.size = w3.heap.size + 1 := by have := hf.lo; omega
 have hn0' : ¬ w3.heap.size + 1 = w.heap.size := fun e => hn0 e.symm
 clear hf hY
 obtain ⟨a0, a1, a2, a3, a4, a5, a6, z0, z1, z2, z3, z4, z5, z6⟩ := row7 HF0.out.row
 obtain ⟨b0, b1, b2, b3, b4, b5, b6, f0, f1, f2, f3, f4, f5, f6⟩ := row7 HF0.out.res
 go_wp2_with fail
 refine (Yak HF0.out.rd HF0.out.size).mono ?_
 rintro e w_4 hp
 cases hx : Xby L r with
 | bad p c =>
   have HM := lh (HM.out.trans (Xam hx))
   rw [hx] at hp
   obtain ⟨rfl, hc⟩ := hp
   have HC4 := lh (HF0.out.chg.up hc)
   clear hx hc
   unfold Xag
   go_wp2
   rw [HM.out]
   exact ⟨rfl, rfl, HC4.out⟩
 | ok x1 u4 =>
   have HM := lh (HM.out.trans (Xap hx))
   rw [hx] at hp
   obtain ⟨⟨v4, rfl, hv⟩, hr, hc⟩ := hp
   have HF4 := lh (HF0.out.step hr hc)
   obtain rfl := hv
   clear hx hr hc a0 a1 a2 a3 a4 a5 a6 z0 z1 z2 z3 z4 z5 z6 b0 b1 b2 b3 b4 b5 b6 f0 f1 f2 f3 f4 f5 f6
   obtain ⟨a0, a1, a2, a3, a4, a5, a6, z0, z1, z2, z3, z4, z5, z6⟩ := row7 HF4.out.row
   obtain ⟨b0, b1, b2, b3, b4, b5, b6, f0, f1, f2, f3, f4, f5, f6⟩ := row7 HF4.out.res
   go_wp2_with fail
   obtain ⟨w_5, hW⟩ : ∃ Z : World, Z = ((w_4.setCell ⟨w3.heap.size + 1, 0, none⟩ (.int .i64 2)).setCell ⟨w3.heap.size + 1, 2, none⟩ (.int .i64 x1)) := ⟨_, rfl⟩
   rw [← hW]
   have HF5 : Hid (Xbt w B R L (w3.heap.size + 1) U NS 2 x1 ⟨#[]⟩ (.slice none 0 0) (.slice none 0 0) w_5 _) := lh (by rw [hW]; exact ((HF4.out.setK 2).setU x1))
   have HWS5 : Hid (w_5.heap.size = w_4.heap.size) := lh (by rw [hW]; simp [World.setCell])
   clear hW a0 a1 a2 a3 a4 a5 a6 z0 z1 z2 z3 z4 z5 z6 b0 b1 b2 b3 b4 b5 b6 f0 f1 f2 f3 f4 f5 f6
   obtain ⟨a0, a1, a2, a3, a4, a5, a6, z0, z1, z2, z3, z4, z5, z6⟩ := row7 HF5.out.row
   obtain ⟨b0, b1, b2, b3, b4, b5, b6, f0, f1, f2, f3, f4, f5, f6⟩ := row7 HF5.out.res
   have HTN := lh (Xan HF5.out.rd HF5.out.size [[59]] (by simp) (by decide))
   rw [HWS5.out] at HTN
   refine (HTN.out).mono ?_
   rintro e w_6 hp
   cases hx : Xal L [[59]] u4 with
   | bad p c =>
     have HM := lh (HM.out.trans (Xbc hx))
     rw [hx] at hp
     obtain ⟨rfl, hc⟩ := hp
     have HC6 := lh (HF5.out.chg.up hc)
     clear hx hc
     unfold Xag
     go_wp2
     rw [HM.out]
     exact ⟨rfl, rfl, HC6.out⟩
   | ok xq u6 =>
     have HM := lh (HM.out.trans (Xbi hx))
     rw [hx] at hp
     obtain ⟨⟨v6, rfl, hv⟩, hr, hc⟩ := hp
     have HF6 := lh (HF5.out.step hr hc)
     clear hv
     clear hx hr hc a0 a1 a2 a3 a4 a5 a6 z0 z1 z2 z3 z4 z5 z6 b0 b1 b2 b3 b4 b5 b6 f0 f1 f2 f3 f4 f5 f6
     obtain ⟨a0, a1, a2, a3, a4, a5, a6, z0, z1, z2, z3, z4, z5, z6⟩ := row7 HF6.out.row
     obtain ⟨b0, b1, b2, b3, b4, b5, b6, f0, f1, f2, f3, f4, f5, f6⟩ := row7 HF6.out.res
     go_upto_region 29 with (fail)
     have HFIN := lh (HF6.out.done (Xca.nil _ _) (Xay.nil _ _) (x := ⟨2, nt.pl, x1, nt.text, [], [], []⟩) rfl HU.out rfl HNS.out rfl HNL.out (Nat.zero_le _))
     go_wp2
     refine bodyPost_ret (v := .agg #[.int .i64 2, .int .i64 U, .int .i64 x1, .string NS, .string ⟨#[]⟩, (.slice none 0 0), (.slice none 0 0)]) ?_ rfl ?_
     · clear HFIN
       simp [results, Tryz.results31, go_sem, b0, b1, b2, b3, b4, b5, b6]
     · rw [HM.out]
       exact HFIN.out
end Go.Proofs.YtbckeljbpknbdaaGreatDoor
