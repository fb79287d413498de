/- Fl -/
import Derived.Test.YtbckeljbpknbdaaGreatDoorVa8
set_option linter.unusedVariables false
set_option linter.unusedSimpArgs false
namespace Go.Proofs.YtbckeljbpknbdaaGreatDoor
open Go.RowKit
set_option maxRecDepth 100000 in
set_option maxHeartbeats 4000000 in
theorem Xvh {w : World} {B R L n : Nat} {t : Tok} {r : List Tok} (h : RdAt w B R L (t :: r)) (hB : B ≤ w.heap.size) (D : Int) (hD0 : 0 ≤ D) (hD1 : D ≤ 24)
  (hE : ∀ (w : World) (us : List Tok), RdAt w B R L us → B ≤ w.heap.size → Calls Tryz.prog 110 #[.pointer (some ⟨R, 0, none⟩), .int .i64 (D + 1)] w (Xaj (ExB w.heap.size) w B R L (Xah L n us))) (ht : t.text = [40]) (hsg : tx r = [45])
  {T : Rd Ex} (hM : T = (Xah L n r.tail).bind fun a r2 => (Xal L [[41]] r2).map fun _ => .mk 9 t.pl 0 (tx r) [a]) : Calls Tryz.prog 125 #[.pointer (some ⟨R, 0, none⟩), .int .i64 D] w (Xaj (ExB w.heap.size) w B R L T) := by
 have HHR := lh h
 obtain ⟨X, hX⟩ : ∃ X : World, X = ((w.alloc (.cells #[.pointer (some ⟨R, 0, none⟩)] 52)).alloc (.cells #[.int .i64 D] 3)).alloc (.cells #[.int .i64 0, .int .i64 0, .int .i64 0, .string ⟨#[]⟩, .slice none 0 0] 152) := ⟨_, rfl⟩
 have hbX : Below w.heap.size w X := by rw [hX]; exact ((Xae _ _).alloc (by simp) _).alloc (by simp; omega) _
 have hx0 : X.cell? ⟨w.heap.size, 0, none⟩ = some (.pointer (some ⟨R, 0, none⟩)) := by
  rw [hX]
  have h0 : (w.alloc (.cells #[.pointer (some ⟨R, 0, none⟩)] 52)).cell? ⟨w.heap.size, 0, none⟩ = some (.pointer (some ⟨R, 0, none⟩)) := by
   rw [cell_of_row _ _ 0 _ _ (0, 0) (heap_alloc_new w _)]; rfl
  exact Xaa (Xaa h0 _) _
 have HP := lh (Xbn (h.below' hB hbX) (Nat.le_trans hB hbX.size))
 obtain ⟨K, hK⟩ : ∃ K : Int, K = (t.kind : Nat) := ⟨_, rfl⟩
 obtain ⟨S, hS⟩ : ∃ S, S = Xab t.text := ⟨_, rfl⟩
 obtain ⟨U, hU⟩ : ∃ U : Int, U = (t.pl : Nat) := ⟨_, rfl⟩
 rw [← hK, ← hS, ← hU] at HP
 have HX := lh hX
 have HB := lh hB
 have HRW := lh (show R < w.heap.size by have := h.lt; omega)
 have HU := lh hU
 have HE := lh hE
 have HS := lh hS
 have HK := lh hK
 have hst : S.toList = [40] := by rw [hS, Xad, ht]
 have HM := lh hM
 have HSG := lh hsg
 have hfT := Xdn
 clear h hB hbX hU hX hE hS hK hM ht hsg
 go_enter Tryz.func125, Tryz.ntmps125
 go_wp2_with fail
 rw [← HX.out]
 refine HP.out.mono ?_
 rintro e w1 ⟨rfl, hr, hc⟩
 have HR1 := lh hr
 have HC1 := lh hc
 clear hr hc hx0
 go_upto_region 5 with (fail)
 obtain ⟨Y, hY⟩ : ∃ Y : World, Y = ((w1.alloc (.cells #[.int .i64 K, .string S, .int .i64 U] 76)).alloc (.cells #[.int .i64 0, .int .i64 U, .int .i64 0, .string ⟨#[]⟩, .slice none 0 0] 152)).alloc
    (.cells #[.func (.func 132) #[] #[.pointer (some ⟨w1.heap.size + 1, 0, none⟩), .pointer (some ⟨w.heap.size, 0, none⟩), .pointer (some ⟨w.heap.size + 1, 0, none⟩)]] 1) := ⟨_, rfl⟩
 rw [← hY]
 obtain ⟨hf, ht0, hbY⟩ := Xck HB.out HRW.out HX.out HR1.out HC1.out _ hY
 have HFR : Hid (Y.heap[w1.heap.size]? = some (.cells #[.int .i64 K, .string S, .int .i64 U] 76 (0, 0))) := lh ht0
 obtain ⟨k0, k1, k2, -⟩ := row3 ht0
 have HF0 := lh hf
 have HO0 : Hid (Xaf Y (fun b => w1.heap.size + 1 + 2 ≤ b) (w1.heap.size + 1 + 2) (.slice none 0 0) []) := lh (Xaf.nil _ _ _)
 obtain ⟨q0, q1, q2⟩ := hf.cells
 obtain ⟨a0, a1, a2, a3, a4, z0, z1, z2, z3, z4⟩ := hf.rows
 obtain ⟨b0, b1, b2, b3, b4, f0, f1, f2, f3, f4⟩ := hf.ress
 clear hf ht0 hbY hY
 go_wp2_with fail
 obtain ⟨K2, hK2⟩ : ∃ K : Int, K = (kd r : Nat) := ⟨_, rfl⟩
 obtain ⟨S2, hS2⟩ : ∃ S, S = Xab (tx r) := ⟨_, rfl⟩
 obtain ⟨P2, hP2⟩ : ∃ P : Int, P = (plc L r : Nat) := ⟨_, rfl⟩
 have HNX := lh (Xeg HF0.out.rd)
 rw [← hK2, ← hS2, ← hP2] at HNX
 have s1 : (S2.toList == [45]) = true := by rw [hS2, Xad, HSG.out]; rfl
 clear hK2 hS2 hP2
 refine HNX.out.mono ?_
 rintro e w2 ⟨rfl, hb⟩
 have HF2 := lh (HF0.out.step (HF0.out.rd.below' HF0.out.size hb) (Chg.of_below hb))
 have HO2 := lh (Xaq (fun b hb e => by have := HF0.out.rlo; omega) HF0.out.rlo HO0.out (Chg.of_below hb))
 clear hb HNX q0 q1 q2 a0 a1 a2 a3 a4 z0 z1 z2 z3 z4 b0 b1 b2 b3 b4 f0 f1 f2 f3 f4
 obtain ⟨q0, q1, q2⟩ := HF2.out.cells
 obtain ⟨a0, a1, a2, a3, a4, z0, z1, z2, z3, z4⟩ := HF2.out.rows
 obtain ⟨b0, b1, b2, b3, b4, f0, f1, f2, f3, f4⟩ := HF2.out.ress
 obtain ⟨t2, r2, hr2⟩ : ∃ t2 r2, r = t2 :: r2 := by
  cases hr : r with
  | nil => have := HSG.out; rw [hr] at this; cases this
  | cons t2 r2 => exact ⟨t2, r2, rfl⟩
 subst hr2
 obtain ⟨K3, hK3⟩ : ∃ K : Int, K = (t2.kind : Nat) := ⟨_, rfl⟩
 obtain ⟨S3, hS3⟩ : ∃ S, S = Xab t2.text := ⟨_, rfl⟩
 obtain ⟨P3, hP3⟩ : ∃ P : Int, P = (t2.pl : Nat) := ⟨_, rfl⟩
 have HPP := lh (Xbn HF2.out.rd HF2.out.size)
 rw [← hK3, ← hS3, ← hP3] at HPP
 have HS3 := lh hS3
 clear hK3 hS3 hP3
 go_wp2_with fail
 refine HPP.out.mono ?_
 rintro e w3 ⟨rfl, hr, hc⟩
 have HF3 := lh (HF2.out.step hr hc)
 have HO3 := lh (Xaq (fun b hb e => by have := HF2.out.rlo; omega) HF2.out.rlo HO2.out hc)
 clear hr hc HPP q0 q1 q2 a0 a1 a2 a3 a4 z0 z1 z2 z3 z4 b0 b1 b2 b3 b4 f0 f1 f2 f3 f4
 obtain ⟨q0, q1, q2⟩ := HF3.out.cells
 obtain ⟨a0, a1, a2, a3, a4, z0, z1, z2, z3, z4⟩ := HF3.out.rows
 obtain ⟨b0, b1, b2, b3, b4, f0, f1, f2, f3, f4⟩ := HF3.out.ress
 go_wp2_with fail
 obtain ⟨w4, hW⟩ : ∃ Z : World, Z = ((w3.setCell ⟨w1.heap.size + 1, 0, none⟩ (.int .i64 9)).setCell ⟨w1.heap.size + 1, 3, none⟩ (.string S3)) := ⟨_, rfl⟩
 rw [← hW]
 have HF4 : Hid (Xav w B R L (w1.heap.size + 1) D 9 U 0 S3 w4 (.slice none 0 0) _) := lh (by rw [hW]; exact ((HF3.out.setK 9).setS S3))
 have HO4 : Hid (Xaf w4 (fun b => w1.heap.size + 1 + 2 ≤ b) (w1.heap.size + 1 + 2) (.slice none 0 0) []) := lh (by rw [hW]; exact (Xds (fun b hb => hb) (by omega) (Xds (fun b hb => hb) (by omega) HO3.out)))
 clear hW q0 q1 q2 a0 a1 a2 a3 a4 z0 z1 z2 z3 z4 b0 b1 b2 b3 b4 f0 f1 f2 f3 f4
 obtain ⟨q0, q1, q2⟩ := HF4.out.cells
 obtain ⟨a0, a1, a2, a3, a4, z0, z1, z2, z3, z4⟩ := HF4.out.rows
 obtain ⟨b0, b1, b2, b3, b4, f0, f1, f2, f3, f4⟩ := HF4.out.ress
 refine (Xmw (Xav.ok HF4.out.lo HF4.out.hB) HF4.out HO4.out (by simp) hD0 hD1 HE.out).mono ?_
 rintro e w5 hp
 cases hx : Xah L n r2 with
 | bad p c =>
   have HM := lh (HM.out.trans (Xam hx))
   rw [hx] at hp
   obtain ⟨rfl, hc⟩ := hp
   have HC5 := lh hc
   clear hx hc
   unfold Xag
   go_wp2
   rw [HM.out]
   exact ⟨rfl, rfl, HC5.out⟩
 | ok x5 u5 =>
   have HM := lh (HM.out.trans (Xap hx))
   rw [hx] at hp
   obtain ⟨rfl, A, z, c, hf, ho⟩ := hp
   have HF5 := lh hf
   have HO5 := lh ho
   clear hx hf ho q0 q1 q2 a0 a1 a2 a3 a4 z0 z1 z2 z3 z4 b0 b1 b2 b3 b4 f0 f1 f2 f3 f4
   obtain ⟨q0, q1, q2⟩ := HF5.out.cells
   obtain ⟨a0, a1, a2, a3, a4, z0, z1, z2, z3, z4⟩ := HF5.out.rows
   obtain ⟨b0, b1, b2, b3, b4, f0, f1, f2, f3, f4⟩ := HF5.out.ress
   go_wp2_with fail
   refine (Xan HF5.out.rd HF5.out.size [[41]] (by simp) (by decide)).mono ?_
   rintro e w6 hp
   cases hx : Xal L [[41]] u5 with
   | bad p c =>
     have HM := lh (HM.out.trans (Xbc hx))
     rw [hx] at hp
     obtain ⟨rfl, hc⟩ := hp
     have HC6 := lh (HF5.out.chg.up hc)
     clear hx hc
     unfold Xag
     go_wp2
     rw [HM.out]
     exact ⟨rfl, rfl, HC6.out⟩
   | ok x6 u6 =>
     have HM := lh (HM.out.trans (Xbi hx))
     rw [hx] at hp
     obtain ⟨⟨v6, rfl, hv⟩, hr, hc⟩ := hp
     have HF6 := lh (HF5.out.step hr hc)
     have HO6 := lh (Xaq (fun b hb e => by have := HF5.out.rlo; omega) HF5.out.rlo HO5.out hc)
     clear hx hr hc q0 q1 q2 a0 a1 a2 a3 a4 z0 z1 z2 z3 z4 b0 b1 b2 b3 b4 f0 f1 f2 f3 f4
     obtain ⟨q0, q1, q2⟩ := HF6.out.cells
     obtain ⟨a0, a1, a2, a3, a4, z0, z1, z2, z3, z4⟩ := HF6.out.rows
     obtain ⟨b0, b1, b2, b3, b4, f0, f1, f2, f3, f4⟩ := HF6.out.ress
     clear hv
     have HT2 : Hid (t2.text.length ≤ 16384) := lh (by have h9 : t2.text = [45] := HSG.out; rw [h9]; simp)
     go_upto_region 34 with (fail)
     obtain ⟨Z, hZ⟩ : ∃ Z : World, Z = w6 := ⟨_, rfl⟩
     rw [← hZ]
     have HFZ : Hid (Xav w B R L (w1.heap.size + 1) D 9 U 0 S3 Z (.slice A z c) _) := lh (by rw [hZ]; exact HF6.out)
     have HOZ : Hid (Xaf Z (fun b => w1.heap.size + 1 + 2 ≤ b) (w1.heap.size + 1 + 2) (.slice A z c) [x5]) := lh (by rw [hZ]; exact HO6.out)
     clear hZ a0 a1 a2 a3 a4 z0 z1 z2 z3 z4 b0 b1 b2 b3 b4 f0 f1 f2 f3 f4
     obtain ⟨a0, a1, a2, a3, a4, -⟩ := HFZ.out.rows
     obtain ⟨b0, b1, b2, b3, b4, f0, f1, f2, f3, f4⟩ := HFZ.out.ress
     go_wp2
     refine bodyPost_ret (v := .agg #[.int .i64 9, .int .i64 U, .int .i64 0, .string S3, (.slice A z c)]) ?_ rfl ?_
     · clear HFZ HOZ
       simp [results, Tryz.results125, go_sem, b0, b1, b2, b3, b4]
     · rw [HM.out]
       exact HFZ.out.done HOZ.out rfl HU.out rfl HS3.out (by have := HT2.out; simp [Ex.name, tx]; omega) rfl
set_option maxRecDepth 100000 in
set_option maxHeartbeats 4000000 in
theorem Ydb {w : World} {B R L n : Nat} {t : Tok} {r : List Tok} (h : RdAt w B R L (t :: r)) (hB : B ≤ w.heap.size) (D : Int) (hD0 : 0 ≤ D) (hD1 : D ≤ 24)
  (hE : ∀ (w : World) (us : List Tok), RdAt w B R L us → B ≤ w.heap.size → Calls Tryz.prog 110 #[.pointer (some ⟨R, 0, none⟩), .int .i64 (D + 1)] w (Xaj (ExB w.heap.size) w B R L (Xah L n us))) (ht : t.text = [40]) (hsg : tx r = [33])
  {T : Rd Ex} (hM : T = (Xah L n r.tail).bind fun a r2 => (Xal L [[41]] r2).map fun _ => .mk 9 t.pl 0 (tx r) [a]) : Calls Tryz.prog 125 #[.pointer (some ⟨R, 0, none⟩), .int .i64 D] w (Xaj (ExB w.heap.size) w B R L T) := by
 have HHR := lh h
 obtain ⟨X, hX⟩ : ∃ X : World, X = ((w.alloc (.cells #[.pointer (some ⟨R, 0, none⟩)] 52)).alloc (.cells #[.int .i64 D] 3)).alloc (.cells #[.int .i64 0, .int .i64 0, .int .i64 0, .string ⟨#[]⟩, .slice none 0 0] 152) := ⟨_, rfl⟩
 have hbX : Below w.heap.size w X := by rw [hX]; exact ((Xae _ _).alloc (by simp) _).alloc (by simp; omega) _
 have hx0 : X.cell? ⟨w.heap.size, 0, none⟩ = some (.pointer (some ⟨R, 0, none⟩)) := by
  rw [hX]
  have h0 : (w.alloc (.cells #[.pointer (some ⟨R, 0, none⟩)] 52)).cell? ⟨w.heap.size, 0, none⟩ = some (.pointer (some ⟨R, 0, none⟩)) := by
   rw [cell_of_row _ _ 0 _ _ (0, 0) (heap_alloc_new w _)]; rfl
  exact Xaa (Xaa h0 _) _
 have HP := lh (Xbn (h.below' hB hbX) (Nat.le_trans hB hbX.size))
 obtain ⟨K, hK⟩ : ∃ K : Int, K = (t.kind : Nat) := ⟨_, rfl⟩
 obtain ⟨S, hS⟩ : ∃ S, S = Xab t.text := ⟨_, rfl⟩
 obtain ⟨U, hU⟩ : ∃ U : Int, U = (t.pl : Nat) := ⟨_, rfl⟩
 rw [← hK, ← hS, ← hU] at HP
 have HX := lh hX
 have HB := lh hB
 have HRW := lh (show R < w.heap.size by have := h.lt; omega)
 have HU := lh hU
 have HE := lh hE
 have HS := lh hS
 have HK := lh hK
 have hst : S.toList = [40] := by rw [hS, Xad, ht]
 have HM := lh hM
 have HSG := lh hsg
 have hfT := Xdn
 clear h hB hbX hU hX hE hS hK hM ht hsg
 go_enter Tryz.func125, Tryz.ntmps125
 go_wp2_with fail
 rw [← HX.out]
 refine HP.out.mono ?_
 rintro e w1 ⟨rfl, hr, hc⟩
 have HR1 := lh hr
 have HC1 := lh hc
 clear hr hc hx0
 go_upto_region 5 with (fail)
 obtain ⟨Y, hY⟩ : ∃ Y : World, Y = ((w1.alloc (.cells #[.int .i64 K, .string S, .int .i64 U] 76)).alloc (.cells #[.int .i64 0, .int .i64 U, .int .i64 0, .string ⟨#[]⟩, .slice none 0 0] 152)).alloc
    (.cells #[.func (.func 132) #[] #[.pointer (some ⟨w1.heap.size + 1, 0, none⟩), .pointer (some ⟨w.heap.size, 0, none⟩), .pointer (some ⟨w.heap.size + 1, 0, none⟩)]] 1) := ⟨_, rfl⟩
 rw [← hY]
 obtain ⟨hf, ht0, hbY⟩ := Xck HB.out HRW.out HX.out HR1.out HC1.out _ hY
 have HFR : Hid (Y.heap[w1.heap.size]? = some (.cells #[.int .i64 K, .string S, .int .i64 U] 76 (0, 0))) := lh ht0
 obtain ⟨k0, k1, k2, -⟩ := row3 ht0
 have HF0 := lh hf
 have HO0 : Hid (Xaf Y (fun b => w1.heap.size + 1 + 2 ≤ b) (w1.heap.size + 1 + 2) (.slice none 0 0) []) := lh (Xaf.nil _ _ _)
 obtain ⟨q0, q1, q2⟩ := hf.cells
 obtain ⟨a0, a1, a2, a3, a4, z0, z1, z2, z3, z4⟩ := hf.rows
 obtain ⟨b0, b1, b2, b3, b4, f0, f1, f2, f3, f4⟩ := hf.ress
 clear hf ht0 hbY hY
 go_wp2_with fail
 obtain ⟨K2, hK2⟩ : ∃ K : Int, K = (kd r : Nat) := ⟨_, rfl⟩
 obtain ⟨S2, hS2⟩ : ∃ S, S = Xab (tx r) := ⟨_, rfl⟩
 obtain ⟨P2, hP2⟩ : ∃ P : Int, P = (plc L r : Nat) := ⟨_, rfl⟩
 have HNX := lh (Xeg HF0.out.rd)
 rw [← hK2, ← hS2, ← hP2] at HNX
 have s1 : (S2.toList == [45]) = false := by rw [hS2, Xad, HSG.out]; rfl
 have s2 : (S2.toList == [33]) = true := by rw [hS2, Xad, HSG.out]; rfl
 clear hK2 hS2 hP2
 refine HNX.out.mono ?_
 rintro e w2 ⟨rfl, hb⟩
 have HF2 := lh (HF0.out.step (HF0.out.rd.below' HF0.out.size hb) (Chg.of_below hb))
 have HO2 := lh (Xaq (fun b hb e => by have := HF0.out.rlo; omega) HF0.out.rlo HO0.out (Chg.of_below hb))
 clear hb HNX q0 q1 q2 a0 a1 a2 a3 a4 z0 z1 z2 z3 z4 b0 b1 b2 b3 b4 f0 f1 f2 f3 f4
 obtain ⟨q0, q1, q2⟩ := HF2.out.cells
 obtain ⟨a0, a1, a2, a3, a4, z0, z1, z2, z3, z4⟩ := HF2.out.rows
 obtain ⟨b0, b1, b2, b3, b4, f0, f1, f2, f3, f4⟩ := HF2.out.ress
 obtain ⟨t2, r2, hr2⟩ : ∃ t2 r2, r = t2 :: r2 := by
  cases hr : r with
  | nil => have := HSG.out; rw [hr] at this; cases this
  | cons t2 r2 => exact ⟨t2, r2, rfl⟩
 subst hr2
 obtain ⟨K3, hK3⟩ : ∃ K : Int, K = (t2.kind : Nat) := ⟨_, rfl⟩
 obtain ⟨S3, hS3⟩ : ∃ S, S = Xab t2.text := ⟨_, rfl⟩
 obtain ⟨P3, hP3⟩ : ∃ P : Int, P = (t2.pl : Nat) := ⟨_, rfl⟩
 have HPP := lh (Xbn HF2.out.rd HF2.out.size)
 rw [← hK3, ← hS3, ← hP3] at HPP
 have HS3 := lh hS3
 clear hK3 hS3 hP3
 go_wp2_with fail
 refine HPP.out.mono ?_
 rintro e w3 ⟨rfl, hr, hc⟩
 have HF3 := lh (HF2.out.step hr hc)
 have HO3 := lh (Xaq (fun b hb e => by have := HF2.out.rlo; omega) HF2.out.rlo HO2.out hc)
 clear hr hc HPP q0 q1 q2 a0 a1 a2 a3 a4 z0 z1 z2 z3 z4 b0 b1 b2 b3 b4 f0 f1 f2 f3 f4
 obtain ⟨q0, q1, q2⟩ := HF3.out.cells
 obtain ⟨a0, a1, a2, a3, a4, z0, z1, z2, z3, z4⟩ := HF3.out.rows
 obtain ⟨b0, b1, b2, b3, b4, f0, f1, f2, f3, f4⟩ := HF3.out.ress
 go_wp2_with fail
 obtain ⟨w4, hW⟩ : ∃ Z : World, Z = ((w3.setCell ⟨w1.heap.size + 1, 0, none⟩ (.int .i64 9)).setCell ⟨w1.heap.size + 1, 3, none⟩ (.string S3)) := ⟨_, rfl⟩
 rw [← hW]
 have HF4 : Hid (Xav w B R L (w1.heap.size + 1) D 9 U 0 S3 w4 (.slice none 0 0) _) := lh (by rw [hW]; exact ((HF3.out.setK 9).setS S3))
 have HO4 : Hid (Xaf w4 (fun b => w1.heap.size + 1 + 2 ≤ b) (w1.heap.size + 1 + 2) (.slice none 0 0) []) := lh (by rw [hW]; exact (Xds (fun b hb => hb) (by omega) (Xds (fun b hb => hb) (by omega) HO3.out)))
 clear hW q0 q1 q2 a0 a1 a2 a3 a4 z0 z1 z2 z3 z4 b0 b1 b2 b3 b4 f0 f1 f2 f3 f4
 obtain ⟨q0, q1, q2⟩ := HF4.out.cells
 obtain ⟨a0, a1, a2, a3, a4, z0, z1, z2, z3, z4⟩ := HF4.out.rows
 obtain ⟨b0, b1, b2, b3, b4, f0, f1, f2, f3, f4⟩ := HF4.out.ress
 refine (Xmw (Xav.ok HF4.out.lo HF4.out.hB) HF4.out HO4.out (by simp) hD0 hD1 HE.out).mono ?_
 rintro e w5 hp
 cases hx : Xah L n r2 with
 | bad p c =>
   have HM := lh (HM.out.trans (Xam hx))
   rw [hx] at hp
   obtain ⟨rfl, hc⟩ := hp
   have HC5 := lh hc
   clear hx hc
   unfold Xag
   go_wp2
   rw [HM.out]
   exact ⟨rfl, rfl, HC5.out⟩
 | ok x5 u5 =>
   have HM := lh (HM.out.trans (Xap hx))
   rw [hx] at hp
   obtain ⟨rfl, A, z, c, hf, ho⟩ := hp
   have HF5 := lh hf
   have HO5 := lh ho
   clear hx hf ho q0 q1 q2 a0 a1 a2 a3 a4 z0 z1 z2 z3 z4 b0 b1 b2 b3 b4 f0 f1 f2 f3 f4
   obtain ⟨q0, q1, q2⟩ := HF5.out.cells
   obtain ⟨a0, a1, a2, a3, a4, z0, z1, z2, z3, z4⟩ := HF5.out.rows
   obtain ⟨b0, b1, b2, b3, b4, f0, f1, f2, f3, f4⟩ := HF5.out.ress
   go_wp2_with fail
   refine (Xan HF5.out.rd HF5.out.size [[41]] (by simp) (by decide)).mono ?_
   rintro e w6 hp
   cases hx : Xal L [[41]] u5 with
   | bad p c =>
     have HM := lh (HM.out.trans (Xbc hx))
     rw [hx] at hp
     obtain ⟨rfl, hc⟩ := hp
     have HC6 := lh (HF5.out.chg.up hc)
     clear hx hc
     unfold Xag
     go_wp2
     rw [HM.out]
     exact ⟨rfl, rfl, HC6.out⟩
   | ok x6 u6 =>
     have HM := lh (HM.out.trans (Xbi hx))
     rw [hx] at hp
     obtain ⟨⟨v6, rfl, hv⟩, hr, hc⟩ := hp
     have HF6 := lh (HF5.out.step hr hc)
     have HO6 := lh (Xaq (fun b hb e => by have := HF5.out.rlo; omega) HF5.out.rlo HO5.out hc)
     clear hx hr hc q0 q1 q2 a0 a1 a2 a3 a4 z0 z1 z2 z3 z4 b0 b1 b2 b3 b4 f0 f1 f2 f3 f4
     obtain ⟨q0, q1, q2⟩ := HF6.out.cells
     obtain ⟨a0, a1, a2, a3, a4, z0, z1, z2, z3, z4⟩ := HF6.out.rows
     obtain ⟨b0, b1, b2, b3, b4, f0, f1, f2, f3, f4⟩ := HF6.out.ress
     clear hv
     have HT2 : Hid (t2.text.length ≤ 16384) := lh (by have h9 : t2.text = [33] := HSG.out; rw [h9]; simp)
     go_upto_region 34 with (fail)
     obtain ⟨Z, hZ⟩ : ∃ Z : World, Z = w6 := ⟨_, rfl⟩
     rw [← hZ]
     have HFZ : Hid (Xav w B R L (w1.heap.size + 1) D 9 U 0 S3 Z (.slice A z c) _) := lh (by rw [hZ]; exact HF6.out)
     have HOZ : Hid (Xaf Z (fun b => w1.heap.size + 1 + 2 ≤ b) (w1.heap.size + 1 + 2) (.slice A z c) [x5]) := lh (by rw [hZ]; exact HO6.out)
     clear hZ a0 a1 a2 a3 a4 z0 z1 z2 z3 z4 b0 b1 b2 b3 b4 f0 f1 f2 f3 f4
     obtain ⟨a0, a1, a2, a3, a4, -⟩ := HFZ.out.rows
     obtain ⟨b0, b1, b2, b3, b4, f0, f1, f2, f3, f4⟩ := HFZ.out.ress
     go_wp2
     refine bodyPost_ret (v := .agg #[.int .i64 9, .int .i64 U, .int .i64 0, .string S3, (.slice A z c)]) ?_ rfl ?_
     · clear HFZ HOZ
       simp [results, Tryz.results125, go_sem, b0, b1, b2, b3, b4]
     · rw [HM.out]
       exact HFZ.out.done HOZ.out rfl HU.out rfl HS3.out (by have := HT2.out; simp [Ex.name, tx]; omega) rfl
set_option maxRecDepth 100000 in
set_option maxHeartbeats 4000000 in
theorem Xsv {w : World} {B R L n : Nat} {t : Tok} {r : List Tok} (h : RdAt w B R L (t :: r)) (hB : B ≤ w.heap.size) (D : Int) (hD0 : 0 ≤ D) (hD1 : D ≤ 24)
  (hE : ∀ (w : World) (us : List Tok), RdAt w B R L us → B ≤ w.heap.size → Calls Tryz.prog 110 #[.pointer (some ⟨R, 0, none⟩), .int .i64 (D + 1)] w (Xaj (ExB w.heap.size) w B R L (Xah L n us))) (ht : t.text = [40]) (hsg : ¬ tx r = [45] ∧ ¬ tx r = [33])
  {T : Rd Ex} (hM : T = (Xah L n r).bind fun a r2 => (Xal L opsL r2).bind fun o r3 => (Xah L n r3).bind fun b r4 => (Xal L [[41]] r4).map fun _ => .mk 10 t.pl 0 o.text [a, b]) : Calls Tryz.prog 125 #[.pointer (some ⟨R, 0, none⟩), .int .i64 D] w (Xaj (ExB w.heap.size) w B R L T) := by
 have HHR := lh h
 obtain ⟨X, hX⟩ : ∃ X : World, X = ((w.alloc (.cells #[.pointer (some ⟨R, 0, none⟩)] 52)).alloc (.cells #[.int .i64 D] 3)).alloc (.cells #[.int .i64 0, .int .i64 0, .int .i64 0, .string ⟨#[]⟩, .slice none 0 0] 152) := ⟨_, rfl⟩
 have hbX : Below w.heap.size w X := by rw [hX]; exact ((Xae _ _).alloc (by simp) _).alloc (by simp; omega) _
 have hx0 : X.cell? ⟨w.heap.size, 0, none⟩ = some (.pointer (some ⟨R, 0, none⟩)) := by
  rw [hX]
  have h0 : (w.alloc (.cells #[.pointer (some ⟨R, 0, none⟩)] 52)).cell? ⟨w.heap.size, 0, none⟩ = some (.pointer (some ⟨R, 0, none⟩)) := by
   rw [cell_of_row _ _ 0 _ _ (0, 0) (heap_alloc_new w _)]; rfl
  exact Xaa (Xaa h0 _) _
 have HP := lh (Xbn (h.below' hB hbX) (Nat.le_trans hB hbX.size))
 obtain ⟨K, hK⟩ : ∃ K : Int, K = (t.kind : Nat) := ⟨_, rfl⟩
 obtain ⟨S, hS⟩ : ∃ S, S = Xab t.text := ⟨_, rfl⟩
 obtain ⟨U, hU⟩ : ∃ U : Int, U = (t.pl : Nat) := ⟨_, rfl⟩
 rw [← hK, ← hS, ← hU] at HP
 have HX := lh hX
 have HB := lh hB
 have HRW := lh (show R < w.heap.size by have := h.lt; omega)
 have HU := lh hU
 have HE := lh hE
 have HS := lh hS
 have HK := lh hK
 have hst : S.toList = [40] := by rw [hS, Xad, ht]
 have HM := lh hM
 have HSG := lh hsg
 have hfT := Xdn
 clear h hB hbX hU hX hE hS hK hM ht hsg
 go_enter Tryz.func125, Tryz.ntmps125
 go_wp2_with fail
 rw [← HX.out]
 refine HP.out.mono ?_
 rintro e w1 ⟨rfl, hr, hc⟩
 have HR1 := lh hr
 have HC1 := lh hc
 clear hr hc hx0
 go_upto_region 5 with (fail)
 obtain ⟨Y, hY⟩ : ∃ Y : World, Y = ((w1.alloc (.cells #[.int .i64 K, .string S, .int .i64 U] 76)).alloc (.cells #[.int .i64 0, .int .i64 U, .int .i64 0, .string ⟨#[]⟩, .slice none 0 0] 152)).alloc
    (.cells #[.func (.func 132) #[] #[.pointer (some ⟨w1.heap.size + 1, 0, none⟩), .pointer (some ⟨w.heap.size, 0, none⟩), .pointer (some ⟨w.heap.size + 1, 0, none⟩)]] 1) := ⟨_, rfl⟩
 rw [← hY]
 obtain ⟨hf, ht0, hbY⟩ := Xck HB.out HRW.out HX.out HR1.out HC1.out _ hY
 have HFR : Hid (Y.heap[w1.heap.size]? = some (.cells #[.int .i64 K, .string S, .int .i64 U] 76 (0, 0))) := lh ht0
 obtain ⟨k0, k1, k2, -⟩ := row3 ht0
 have HF0 := lh hf
 have HO0 : Hid (Xaf Y (fun b => w1.heap.size + 1 + 2 ≤ b) (w1.heap.size + 1 + 2) (.slice none 0 0) []) := lh (Xaf.nil _ _ _)
 obtain ⟨q0, q1, q2⟩ := hf.cells
 obtain ⟨a0, a1, a2, a3, a4, z0, z1, z2, z3, z4⟩ := hf.rows
 obtain ⟨b0, b1, b2, b3, b4, f0, f1, f2, f3, f4⟩ := hf.ress
 clear hf ht0 hbY hY
 go_wp2_with fail
 obtain ⟨K2, hK2⟩ : ∃ K : Int, K = (kd r : Nat) := ⟨_, rfl⟩
 obtain ⟨S2, hS2⟩ : ∃ S, S = Xab (tx r) := ⟨_, rfl⟩
 obtain ⟨P2, hP2⟩ : ∃ P : Int, P = (plc L r : Nat) := ⟨_, rfl⟩
 have HNX := lh (Xeg HF0.out.rd)
 rw [← hK2, ← hS2, ← hP2] at HNX
 have s1 : (S2.toList == [45]) = false := by rw [hS2, Xad]; simpa using HSG.out.1
 have s2 : (S2.toList == [33]) = false := by rw [hS2, Xad]; simpa using HSG.out.2
 clear hK2 hS2 hP2
 refine HNX.out.mono ?_
 rintro e w2 ⟨rfl, hb⟩
 have HF2 := lh (HF0.out.step (HF0.out.rd.below' HF0.out.size hb) (Chg.of_below hb))
 have HO2 := lh (Xaq (fun b hb e => by have := HF0.out.rlo; omega) HF0.out.rlo HO0.out (Chg.of_below hb))
 clear hb HNX q0 q1 q2 a0 a1 a2 a3 a4 z0 z1 z2 z3 z4 b0 b1 b2 b3 b4 f0 f1 f2 f3 f4
 obtain ⟨q0, q1, q2⟩ := HF2.out.cells
 obtain ⟨a0, a1, a2, a3, a4, z0, z1, z2, z3, z4⟩ := HF2.out.rows
 obtain ⟨b0, b1, b2, b3, b4, f0, f1, f2, f3, f4⟩ := HF2.out.ress
 go_wp2_with fail
 obtain ⟨w4, hW⟩ : ∃ Z : World, Z = (w2.setCell ⟨w1.heap.size + 1, 0, none⟩ (.int .i64 10)) := ⟨_, rfl⟩
 rw [← hW]
 have HF4 : Hid (Xav w B R L (w1.heap.size + 1) D 10 U 0 ⟨#[]⟩ w4 (.slice none 0 0) _) := lh (by rw [hW]; exact (HF2.out.setK 10))
 have HO4 : Hid (Xaf w4 (fun b => w1.heap.size + 1 + 2 ≤ b) (w1.heap.size + 1 + 2) (.slice none 0 0) []) := lh (by rw [hW]; exact (Xds (fun b hb => hb) (by omega) HO2.out))
 clear hW q0 q1 q2 a0 a1 a2 a3 a4 z0 z1 z2 z3 z4 b0 b1 b2 b3 b4 f0 f1 f2 f3 f4
 obtain ⟨q0, q1, q2⟩ := HF4.out.cells
 obtain ⟨a0, a1, a2, a3, a4, z0, z1, z2, z3, z4⟩ := HF4.out.rows
 obtain ⟨b0, b1, b2, b3, b4, f0, f1, f2, f3, f4⟩ := HF4.out.ress
 refine (Xmw (Xav.ok HF4.out.lo HF4.out.hB) HF4.out HO4.out (by simp) hD0 hD1 HE.out).mono ?_
 rintro e w5 hp
 cases hx : Xah L n r with
 | bad p c =>
   have HM := lh (HM.out.trans (Xam hx))
   rw [hx] at hp
   obtain ⟨rfl, hc⟩ := hp
   have HC5 := lh hc
   clear hx hc
   unfold Xag
   go_wp2
   rw [HM.out]
   exact ⟨rfl, rfl, HC5.out⟩
 | ok x5 u5 =>
   have HM := lh (HM.out.trans (Xap hx))
   rw [hx] at hp
   obtain ⟨rfl, A, z, c, hf, ho⟩ := hp
   have HF5 := lh hf
   have HO5 := lh ho
   clear hx hf ho q0 q1 q2 a0 a1 a2 a3 a4 z0 z1 z2 z3 z4 b0 b1 b2 b3 b4 f0 f1 f2 f3 f4
   obtain ⟨q0, q1, q2⟩ := HF5.out.cells
   obtain ⟨a0, a1, a2, a3, a4, z0, z1, z2, z3, z4⟩ := HF5.out.rows
   obtain ⟨b0, b1, b2, b3, b4, f0, f1, f2, f3, f4⟩ := HF5.out.ress
   go_wp2_with fail
   refine (Xan HF5.out.rd HF5.out.size [[43], [45], [42], [47], [37], [38], [124], [60], [60, 61], [61, 61], [33, 61]] (by simp) (by decide)).mono ?_
   rintro e w6 hp
   cases hx : Xal L [[43], [45], [42], [47], [37], [38], [124], [60], [60, 61], [61, 61], [33, 61]] u5 with
   | bad p c =>
     have HM := lh (HM.out.trans (Xam hx))
     rw [hx] at hp
     obtain ⟨rfl, hc⟩ := hp
     have HC6 := lh (HF5.out.chg.up hc)
     clear hx hc
     unfold Xag
     go_wp2
     rw [HM.out]
     exact ⟨rfl, rfl, HC6.out⟩
   | ok x6 u6 =>
     have HM := lh (HM.out.trans (Xap hx))
     rw [hx] at hp
     obtain ⟨⟨v6, rfl, hv⟩, hr, hc⟩ := hp
     have HF6 := lh (HF5.out.step hr hc)
     have HO6 := lh (Xaq (fun b hb e => by have := HF5.out.rlo; omega) HF5.out.rlo HO5.out hc)
     clear hx hr hc q0 q1 q2 a0 a1 a2 a3 a4 z0 z1 z2 z3 z4 b0 b1 b2 b3 b4 f0 f1 f2 f3 f4
     obtain ⟨q0, q1, q2⟩ := HF6.out.cells
     obtain ⟨a0, a1, a2, a3, a4, z0, z1, z2, z3, z4⟩ := HF6.out.rows
     obtain ⟨b0, b1, b2, b3, b4, f0, f1, f2, f3, f4⟩ := HF6.out.ress
     obtain ⟨rfl, hok⟩ := hv
     obtain ⟨S6, hS6⟩ : ∃ S, S = Xab x6.text := ⟨_, rfl⟩
     obtain ⟨K6, hK6⟩ : ∃ K : Int, K = (x6.kind : Nat) := ⟨_, rfl⟩
     obtain ⟨P6, hP6⟩ : ∃ K : Int, K = (x6.pl : Nat) := ⟨_, rfl⟩
     rw [← hS6, ← hK6, ← hP6]
     have HS6 := lh hS6
     have HL6 := lh hok.2.1
     clear hS6 hK6 hP6 hok
     go_wp2_with fail
     obtain ⟨w7, hW⟩ : ∃ Z : World, Z = (w6.setCell ⟨w1.heap.size + 1, 3, none⟩ (.string S6)) := ⟨_, rfl⟩
     rw [← hW]
     have HF7 : Hid (Xav w B R L (w1.heap.size + 1) D 10 U 0 S6 w7 (.slice A z c) _) := lh (by rw [hW]; exact (HF6.out.setS S6))
     have HO7 : Hid (Xaf w7 (fun b => w1.heap.size + 1 + 2 ≤ b) (w1.heap.size + 1 + 2) (.slice A z c) [x5]) := lh (by rw [hW]; exact (Xds (fun b hb => hb) (by omega) HO6.out))
     clear hW q0 q1 q2 a0 a1 a2 a3 a4 z0 z1 z2 z3 z4 b0 b1 b2 b3 b4 f0 f1 f2 f3 f4
     obtain ⟨q0, q1, q2⟩ := HF7.out.cells
     obtain ⟨a0, a1, a2, a3, a4, z0, z1, z2, z3, z4⟩ := HF7.out.rows
     obtain ⟨b0, b1, b2, b3, b4, f0, f1, f2, f3, f4⟩ := HF7.out.ress
     refine (Xmw (Xav.ok HF7.out.lo HF7.out.hB) HF7.out HO7.out (by simp) hD0 hD1 HE.out).mono ?_
     rintro e w8 hp
     cases hx : Xah L n u6 with
     | bad p c =>
       have HM := lh (HM.out.trans (Xam hx))
       rw [hx] at hp
       obtain ⟨rfl, hc⟩ := hp
       have HC8 := lh hc
       clear hx hc
       unfold Xag
       go_wp2
       rw [HM.out]
       exact ⟨rfl, rfl, HC8.out⟩
     | ok x8 u8 =>
       have HM := lh (HM.out.trans (Xap hx))
       rw [hx] at hp
       obtain ⟨rfl, A8, z8, c8, hf, ho⟩ := hp
       have HF8 := lh hf
       have HO8 := lh ho
       clear hx hf ho q0 q1 q2 a0 a1 a2 a3 a4 z0 z1 z2 z3 z4 b0 b1 b2 b3 b4 f0 f1 f2 f3 f4
       obtain ⟨q0, q1, q2⟩ := HF8.out.cells
       obtain ⟨a0, a1, a2, a3, a4, z0, z1, z2, z3, z4⟩ := HF8.out.rows
       obtain ⟨b0, b1, b2, b3, b4, f0, f1, f2, f3, f4⟩ := HF8.out.ress
       go_wp2_with fail
       refine (Xan HF8.out.rd HF8.out.size [[41]] (by simp) (by decide)).mono ?_
       rintro e w9 hp
       cases hx : Xal L [[41]] u8 with
       | bad p c =>
         have HM := lh (HM.out.trans (Xbc hx))
         rw [hx] at hp
         obtain ⟨rfl, hc⟩ := hp
         have HC9 := lh (HF8.out.chg.up hc)
         clear hx hc
         unfold Xag
         go_wp2
         rw [HM.out]
         exact ⟨rfl, rfl, HC9.out⟩
       | ok x9 u9 =>
         have HM := lh (HM.out.trans (Xbi hx))
         rw [hx] at hp
         obtain ⟨⟨v9, rfl, hv⟩, hr, hc⟩ := hp
         have HF9 := lh (HF8.out.step hr hc)
         have HO9 := lh (Xaq (fun b hb e => by have := HF8.out.rlo; omega) HF8.out.rlo HO8.out hc)
         clear hx hr hc q0 q1 q2 a0 a1 a2 a3 a4 z0 z1 z2 z3 z4 b0 b1 b2 b3 b4 f0 f1 f2 f3 f4
         obtain ⟨q0, q1, q2⟩ := HF9.out.cells
         obtain ⟨a0, a1, a2, a3, a4, z0, z1, z2, z3, z4⟩ := HF9.out.rows
         obtain ⟨b0, b1, b2, b3, b4, f0, f1, f2, f3, f4⟩ := HF9.out.ress
         clear hv
         go_upto_region 34 with (fail)
         obtain ⟨Z, hZ⟩ : ∃ Z : World, Z = w9 := ⟨_, rfl⟩
         rw [← hZ]
         have HFZ : Hid (Xav w B R L (w1.heap.size + 1) D 10 U 0 S6 Z (.slice A8 z8 c8) _) := lh (by rw [hZ]; exact HF9.out)
         have HOZ : Hid (Xaf Z (fun b => w1.heap.size + 1 + 2 ≤ b) (w1.heap.size + 1 + 2) (.slice A8 z8 c8) [x5, x8]) := lh (by rw [hZ]; exact HO9.out)
         clear hZ a0 a1 a2 a3 a4 z0 z1 z2 z3 z4 b0 b1 b2 b3 b4 f0 f1 f2 f3 f4
         obtain ⟨a0, a1, a2, a3, a4, -⟩ := HFZ.out.rows
         obtain ⟨b0, b1, b2, b3, b4, f0, f1, f2, f3, f4⟩ := HFZ.out.ress
         go_wp2
         refine bodyPost_ret (v := .agg #[.int .i64 10, .int .i64 U, .int .i64 0, .string S6, (.slice A8 z8 c8)]) ?_ rfl ?_
         · clear HFZ HOZ
           simp [results, Tryz.results125, go_sem, b0, b1, b2, b3, b4]
         · rw [HM.out]
           exact HFZ.out.done HOZ.out rfl HU.out rfl HS6.out (by have := HL6.out; simp [Ex.name]; omega) rfl
end Go.Proofs.YtbckeljbpknbdaaGreatDoor
