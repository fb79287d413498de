/- Fm Av -/
import Derived.Test.YtbckeljbpknbdaaGreatDoorVa8
set_option linter.unusedVariables false
set_option linter.unusedSimpArgs false
namespace Go.Proofs.YtbckeljbpknbdaaGreatDoor
open Go.RowKit
set_option maxRecDepth 100000 in
set_option maxHeartbeats 4000000 in
theorem Xsw {w : World} {B R L n : Nat} {t : Tok} {r : List Tok} (h : RdAt w B R L (t :: r)) (hB : B ≤ w.heap.size) (D : Int) (hD0 : 0 ≤ D) (hD1 : D ≤ 24)
  (hE : ∀ (w : World) (us : List Tok), RdAt w B R L us → B ≤ w.heap.size → Calls Tryz.prog 110 #[.pointer (some ⟨R, 0, none⟩), .int .i64 (D + 1)] w (Xaj (ExB w.heap.size) w B R L (Xah L n us))) (hne : t.text ∉ [[116, 114, 117, 101], [102, 97, 108, 115, 101], [110, 105, 108], [108, 101, 110], [109, 97, 107, 101], [110, 101, 119], [114, 101, 108, 101, 97, 115, 101], [40]]) (hk : t.kind = 2) (hok : Xqm t)
  {T : Rd Ex} (hM : T = .ok (.mk 1 t.pl (numOf t.text : Nat) [] []) r) : Calls Tryz.prog 125 #[.pointer (some ⟨R, 0, none⟩), .int .i64 D] w (Xaj (ExB w.heap.size) w B R L T) := by
 have HHR := lh h
 obtain ⟨X, hX⟩ : ∃ X : World, X = ((w.alloc (.cells #[.pointer (some ⟨R, 0, none⟩)] 52)).alloc (.cells #[.int .i64 D] 3)).alloc (.cells #[.int .i64 0, .int .i64 0, .int .i64 0, .string ⟨#[]⟩, .slice none 0 0] 152) := ⟨_, rfl⟩
 have hbX : Below w.heap.size w X := by rw [hX]; exact ((Xae _ _).alloc (by simp) _).alloc (by simp; omega) _
 have hx0 : X.cell? ⟨w.heap.size, 0, none⟩ = some (.pointer (some ⟨R, 0, none⟩)) := by
  rw [hX]
  have h0 : (w.alloc (.cells #[.pointer (some ⟨R, 0, none⟩)] 52)).cell? ⟨w.heap.size, 0, none⟩ = some (.pointer (some ⟨R, 0, none⟩)) := by
   rw [cell_of_row _ _ 0 _ _ (0, 0) (heap_alloc_new w _)]; rfl
  exact Xaa (Xaa h0 _) _
 have HP := lh (Xbn (h.below' hB hbX) (Nat.le_trans hB hbX.size))
 obtain ⟨K, hK⟩ : ∃ K : Int, K = (t.kind : Nat) := ⟨_, rfl⟩
 obtain ⟨S, hS⟩ : ∃ S, S = Xab t.text := ⟨_, rfl⟩
 obtain ⟨U, hU⟩ : ∃ U : Int, U = (t.pl : Nat) := ⟨_, rfl⟩
 rw [← hK, ← hS, ← hU] at HP
 have HX := lh hX
 have HB := lh hB
 have HRW := lh (show R < w.heap.size by have := h.lt; omega)
 have HU := lh hU
 have HE := lh hE
 have HS := lh hS
 have HK := lh hK
 have n0 : (S.toList == [116, 114, 117, 101]) = false := by rw [hS, Xad]; exact beq_eq_false_iff_ne.2 (fun e => hne (by rw [e]; decide))
 have n1 : (S.toList == [102, 97, 108, 115, 101]) = false := by rw [hS, Xad]; exact beq_eq_false_iff_ne.2 (fun e => hne (by rw [e]; decide))
 have n2 : (S.toList == [110, 105, 108]) = false := by rw [hS, Xad]; exact beq_eq_false_iff_ne.2 (fun e => hne (by rw [e]; decide))
 have n3 : (S.toList == [108, 101, 110]) = false := by rw [hS, Xad]; exact beq_eq_false_iff_ne.2 (fun e => hne (by rw [e]; decide))
 have n4 : (S.toList == [109, 97, 107, 101]) = false := by rw [hS, Xad]; exact beq_eq_false_iff_ne.2 (fun e => hne (by rw [e]; decide))
 have n5 : (S.toList == [110, 101, 119]) = false := by rw [hS, Xad]; exact beq_eq_false_iff_ne.2 (fun e => hne (by rw [e]; decide))
 have n6 : (S.toList == [114, 101, 108, 101, 97, 115, 101]) = false := by rw [hS, Xad]; exact beq_eq_false_iff_ne.2 (fun e => hne (by rw [e]; decide))
 have n7 : (S.toList == [40]) = false := by rw [hS, Xad]; exact beq_eq_false_iff_ne.2 (fun e => hne (by rw [e]; decide))
 have HM := lh hM
 have k2 : K = 2 := by rw [hK, hk]; rfl
 have HNUM : Hid (∀ w : World, Calls Tryz.prog 85 #[.agg #[.int .i64 2, .string S, .int .i64 U]] w fun e w' => e = .returned (.int .i64 (numOf t.text : Nat)) ∧ Below w.heap.size w w') := lh fun w => by rw [hS]; exact Xpv 2 U t.text w (hok.2.2.2 hk).1 hok.1 (hok.2.2.2 hk).2
 subst k2
 clear h hB hbX hU hX hE hS hK hM hk hok hne
 go_enter Tryz.func125, Tryz.ntmps125
 go_wp2_with fail
 rw [← HX.out]
 refine HP.out.mono ?_
 rintro e w1 ⟨rfl, hr, hc⟩
 have HR1 := lh hr
 have HC1 := lh hc
 clear hr hc hx0
 go_upto_region 5 with (fail)
 obtain ⟨Y, hY⟩ : ∃ Y : World, Y = ((w1.alloc (.cells #[.int .i64 2, .string S, .int .i64 U] 76)).alloc (.cells #[.int .i64 0, .int .i64 U, .int .i64 0, .string ⟨#[]⟩, .slice none 0 0] 152)).alloc
    (.cells #[.func (.func 132) #[] #[.pointer (some ⟨w1.heap.size + 1, 0, none⟩), .pointer (some ⟨w.heap.size, 0, none⟩), .pointer (some ⟨w.heap.size + 1, 0, none⟩)]] 1) := ⟨_, rfl⟩
 rw [← hY]
 obtain ⟨hf, ht0, hbY⟩ := Xck HB.out HRW.out HX.out HR1.out HC1.out _ hY
 have HFR : Hid (Y.heap[w1.heap.size]? = some (.cells #[.int .i64 2, .string S, .int .i64 U] 76 (0, 0))) := lh ht0
 obtain ⟨k0, k1, k2, -⟩ := row3 ht0
 have HF0 := lh hf
 have HO0 : Hid (Xaf Y (fun b => w1.heap.size + 1 + 2 ≤ b) (w1.heap.size + 1 + 2) (.slice none 0 0) []) := lh (Xaf.nil _ _ _)
 obtain ⟨q0, q1, q2⟩ := hf.cells
 obtain ⟨a0, a1, a2, a3, a4, z0, z1, z2, z3, z4⟩ := hf.rows
 obtain ⟨b0, b1, b2, b3, b4, f0, f1, f2, f3, f4⟩ := hf.ress
 clear hf ht0 hbY hY
 go_wp2_with fail
 refine (HNUM.out Y).mono ?_
 rintro e w2 ⟨rfl, hb⟩
 obtain ⟨m, hm⟩ : ∃ m : Int, m = (numOf t.text : Nat) := ⟨_, rfl⟩
 rw [← hm]
 have HNM := lh hm
 have HF2 := lh (HF0.out.step (HF0.out.rd.below' HF0.out.size hb) (Chg.of_below hb))
 have HO2 := lh (Xaq (fun b hb e => by have := HF0.out.rlo; omega) HF0.out.rlo HO0.out (Chg.of_below hb))
 clear hb hm q0 q1 q2 a0 a1 a2 a3 a4 z0 z1 z2 z3 z4 b0 b1 b2 b3 b4 f0 f1 f2 f3 f4
 obtain ⟨q0, q1, q2⟩ := HF2.out.cells
 obtain ⟨a0, a1, a2, a3, a4, z0, z1, z2, z3, z4⟩ := HF2.out.rows
 obtain ⟨b0, b1, b2, b3, b4, f0, f1, f2, f3, f4⟩ := HF2.out.ress
 go_upto_region 34 with (fail)
 obtain ⟨Z, hZ⟩ : ∃ Z : World, Z = ((w2.setCell ⟨w1.heap.size + 1, 0, none⟩ (.int .i64 1)).setCell ⟨w1.heap.size + 1, 2, none⟩ (.int .i64 m)) := ⟨_, rfl⟩
 rw [← hZ]
 have HFZ : Hid (Xav w B R L (w1.heap.size + 1) D 1 U m ⟨#[]⟩ Z (.slice none 0 0) _) := lh (by rw [hZ]; exact ((HF2.out.setK 1).setM m))
 have HOZ : Hid (Xaf Z (fun b => w1.heap.size + 1 + 2 ≤ b) (w1.heap.size + 1 + 2) (.slice none 0 0) []) := lh (by rw [hZ]; exact (Xds (fun b hb => hb) (by omega) (Xds (fun b hb => hb) (by omega) HO2.out)))
 clear hZ a0 a1 a2 a3 a4 z0 z1 z2 z3 z4 b0 b1 b2 b3 b4 f0 f1 f2 f3 f4
 obtain ⟨a0, a1, a2, a3, a4, -⟩ := HFZ.out.rows
 obtain ⟨b0, b1, b2, b3, b4, f0, f1, f2, f3, f4⟩ := HFZ.out.ress
 go_wp2
 refine bodyPost_ret (v := .agg #[.int .i64 1, .int .i64 U, .int .i64 m, .string ⟨#[]⟩, (.slice none 0 0)]) ?_ rfl ?_
 · clear HFZ HOZ
   simp [results, Tryz.results125, go_sem, b0, b1, b2, b3, b4]
 · rw [HM.out]
   exact HFZ.out.done HOZ.out rfl HU.out HNM.out rfl (by simp [Ex.name]) rfl
set_option maxRecDepth 100000 in
set_option maxHeartbeats 4000000 in
theorem Xvg {w : World} {B R L n : Nat} {t : Tok} {r : List Tok} (h : RdAt w B R L (t :: r)) (hB : B ≤ w.heap.size) (D : Int) (hD0 : 0 ≤ D) (hD1 : D ≤ 24)
  (hE : ∀ (w : World) (us : List Tok), RdAt w B R L us → B ≤ w.heap.size → Calls Tryz.prog 110 #[.pointer (some ⟨R, 0, none⟩), .int .i64 (D + 1)] w (Xaj (ExB w.heap.size) w B R L (Xah L n us))) (hne : t.text ∉ [[116, 114, 117, 101], [102, 97, 108, 115, 101], [110, 105, 108], [108, 101, 110], [109, 97, 107, 101], [110, 101, 119], [114, 101, 108, 101, 97, 115, 101], [40]]) (hk : ¬ t.kind = 2) (hok : Xqm t)
  {T : Rd Ex} (hM : T = .ok (.mk 4 t.pl 0 t.text []) r) : Calls Tryz.prog 125 #[.pointer (some ⟨R, 0, none⟩), .int .i64 D] w (Xaj (ExB w.heap.size) w B R L T) := by
 have HHR := lh h
 obtain ⟨X, hX⟩ : ∃ X : World, X = ((w.alloc (.cells #[.pointer (some ⟨R, 0, none⟩)] 52)).alloc (.cells #[.int .i64 D] 3)).alloc (.cells #[.int .i64 0, .int .i64 0, .int .i64 0, .string ⟨#[]⟩, .slice none 0 0] 152) := ⟨_, rfl⟩
 have hbX : Below w.heap.size w X := by rw [hX]; exact ((Xae _ _).alloc (by simp) _).alloc (by simp; omega) _
 have hx0 : X.cell? ⟨w.heap.size, 0, none⟩ = some (.pointer (some ⟨R, 0, none⟩)) := by
  rw [hX]
  have h0 : (w.alloc (.cells #[.pointer (some ⟨R, 0, none⟩)] 52)).cell? ⟨w.heap.size, 0, none⟩ = some (.pointer (some ⟨R, 0, none⟩)) := by
   rw [cell_of_row _ _ 0 _ _ (0, 0) (heap_alloc_new w _)]; rfl
  exact Xaa (Xaa h0 _) _
 have HP := lh (Xbn (h.below' hB hbX) (Nat.le_trans hB hbX.size))
 obtain ⟨K, hK⟩ : ∃ K : Int, K = (t.kind : Nat) := ⟨_, rfl⟩
 obtain ⟨S, hS⟩ : ∃ S, S = Xab t.text := ⟨_, rfl⟩
 obtain ⟨U, hU⟩ : ∃ U : Int, U = (t.pl : Nat) := ⟨_, rfl⟩
 rw [← hK, ← hS, ← hU] at HP
 have HX := lh hX
 have HB := lh hB
 have HRW := lh (show R < w.heap.size by have := h.lt; omega)
 have HU := lh hU
 have HE := lh hE
 have HS := lh hS
 have HK := lh hK
 have n0 : (S.toList == [116, 114, 117, 101]) = false := by rw [hS, Xad]; exact beq_eq_false_iff_ne.2 (fun e => hne (by rw [e]; decide))
 have n1 : (S.toList == [102, 97, 108, 115, 101]) = false := by rw [hS, Xad]; exact beq_eq_false_iff_ne.2 (fun e => hne (by rw [e]; decide))
 have n2 : (S.toList == [110, 105, 108]) = false := by rw [hS, Xad]; exact beq_eq_false_iff_ne.2 (fun e => hne (by rw [e]; decide))
 have n3 : (S.toList == [108, 101, 110]) = false := by rw [hS, Xad]; exact beq_eq_false_iff_ne.2 (fun e => hne (by rw [e]; decide))
 have n4 : (S.toList == [109, 97, 107, 101]) = false := by rw [hS, Xad]; exact beq_eq_false_iff_ne.2 (fun e => hne (by rw [e]; decide))
 have n5 : (S.toList == [110, 101, 119]) = false := by rw [hS, Xad]; exact beq_eq_false_iff_ne.2 (fun e => hne (by rw [e]; decide))
 have n6 : (S.toList == [114, 101, 108, 101, 97, 115, 101]) = false := by rw [hS, Xad]; exact beq_eq_false_iff_ne.2 (fun e => hne (by rw [e]; decide))
 have n7 : (S.toList == [40]) = false := by rw [hS, Xad]; exact beq_eq_false_iff_ne.2 (fun e => hne (by rw [e]; decide))
 have HM := lh hM
 have k2 : ¬ K = 2 := by rw [hK]; omega
 have HL := lh hok.2.1
 clear h hB hbX hU hX hE hS hK hM hk hok hne
 go_enter Tryz.func125, Tryz.ntmps125
 go_wp2_with fail
 rw [← HX.out]
 refine HP.out.mono ?_
 rintro e w1 ⟨rfl, hr, hc⟩
 have HR1 := lh hr
 have HC1 := lh hc
 clear hr hc hx0
 go_upto_region 5 with (fail)
 obtain ⟨Y, hY⟩ : ∃ Y : World, Y = ((w1.alloc (.cells #[.int .i64 K, .string S, .int .i64 U] 76)).alloc (.cells #[.int .i64 0, .int .i64 U, .int .i64 0, .string ⟨#[]⟩, .slice none 0 0] 152)).alloc
    (.cells #[.func (.func 132) #[] #[.pointer (some ⟨w1.heap.size + 1, 0, none⟩), .pointer (some ⟨w.heap.size, 0, none⟩), .pointer (some ⟨w.heap.size + 1, 0, none⟩)]] 1) := ⟨_, rfl⟩
 rw [← hY]
 obtain ⟨hf, ht0, hbY⟩ := Xck HB.out HRW.out HX.out HR1.out HC1.out _ hY
 have HFR : Hid (Y.heap[w1.heap.size]? = some (.cells #[.int .i64 K, .string S, .int .i64 U] 76 (0, 0))) := lh ht0
 obtain ⟨k0, k1, k2, -⟩ := row3 ht0
 have HF0 := lh hf
 have HO0 : Hid (Xaf Y (fun b => w1.heap.size + 1 + 2 ≤ b) (w1.heap.size + 1 + 2) (.slice none 0 0) []) := lh (Xaf.nil _ _ _)
 obtain ⟨q0, q1, q2⟩ := hf.cells
 obtain ⟨a0, a1, a2, a3, a4, z0, z1, z2, z3, z4⟩ := hf.rows
 obtain ⟨b0, b1, b2, b3, b4, f0, f1, f2, f3, f4⟩ := hf.ress
 clear hf ht0 hbY hY
 go_upto_region 8 with (fail)
 refine wp_region_held_drew (S := fun W => W.cell? ⟨w1.heap.size, 1, none⟩ = some (.string S)) (by kernel_rfl) k1 (fun hHeld => ?_)
 refine wpAnyH_take (i := 0) (oi := _) (v := .pointer (some ⟨w1.heap.size, 1, none⟩)) rfl (by kernel_rfl) (by kernel_rfl) (by kernel_rfl) (fun _ _ _ h => h) (Or.inl ⟨by rfl, fun W hS => ?_⟩) hHeld ?_
 · go_simp
 simp only [Act.put]
 refine wpAnyH_take (i := 1) (oi := _) (v := .string S) rfl (by kernel_rfl) (by kernel_rfl) (by kernel_rfl) (fun _ _ _ h => h) (Or.inl ⟨by rfl, fun W hS => ?_⟩) hHeld ?_
 · go_simp
 simp only [Act.put]
 refine wpAnyH_take (i := 2) (oi := _) (v := .pointer (some ⟨w1.heap.size + 1, 0, none⟩)) rfl (by kernel_rfl) (by kernel_rfl) (by kernel_rfl) (fun _ _ _ h => h) (Or.inl ⟨by rfl, fun W hS => ?_⟩) hHeld ?_
 · go_simp
 simp only [Act.put]
 have d0 : Y.drew.cell? ⟨w1.heap.size + 1, 0, none⟩ = some (.int .i64 0) := a0
 have d3 : Y.drew.cell? ⟨w1.heap.size + 1, 3, none⟩ = some (.string ⟨#[]⟩) := a3
 have g0 : Y.drew.frozen? ⟨w1.heap.size + 1, 0, none⟩ = false := z0
 have g3 : Y.drew.frozen? ⟨w1.heap.size + 1, 3, none⟩ = false := z3
 have hk1 : ∀ (W : World) (i : Nat) (u : Value), W.cell? ⟨w1.heap.size, 1, none⟩ = some (.string S) → (W.setCell ⟨w1.heap.size + 1, i, none⟩ u).cell? ⟨w1.heap.size, 1, none⟩ = some (.string S) := fun W i u h => (World.cell?_of_block (Below.heap_setCell _ _ _ _ (by show w1.heap.size ≠ w1.heap.size + 1; omega))).trans h
 have HK1 := lh hk1
 clear hk1
 refine wpAnyH_ready (rs := [3]) (by kernel_rfl) (by simp) ?_
 refine AllReadyH.cons rfl (fun K hK => ?_) AllReadyH.nil
 go_simp
 refine hK.out _ _ (HK1.out _ _ _ hHeld) (fun hHeld => ?_)
 clear hK K
 refine wpAnyH_take (i := 4) (oi := _) (v := .pointer (some ⟨w1.heap.size + 1, 3, none⟩)) rfl (by kernel_rfl) (by kernel_rfl) (by kernel_rfl) (fun _ _ _ h => h) (Or.inl ⟨by rfl, fun W hS => ?_⟩) hHeld ?_
 · go_simp
 simp only [Act.put]
 refine wpAnyH_ready (rs := [5]) (by kernel_rfl) (by simp) ?_
 refine AllReadyH.cons rfl (fun K hK => ?_) AllReadyH.nil
 go_simp
 refine hK.out _ _ (HK1.out _ _ _ hHeld) (fun hHeld => ?_)
 clear hK K
 refine wpAnyH_done (by kernel_rfl) ?_ _
 clear d0 d3 g0 g3 hHeld
 go_upto_region 34 with (fail)
 obtain ⟨Z, hZ⟩ : ∃ Z : World, Z = ((Y.setCell ⟨w1.heap.size + 1, 0, none⟩ (.int .i64 4)).setCell ⟨w1.heap.size + 1, 3, none⟩ (.string S)).drew := ⟨_, rfl⟩
 rw [← hZ]
 have HFZ : Hid (Xav w B R L (w1.heap.size + 1) D 4 U 0 S Z (.slice none 0 0) _) := lh (by rw [hZ]; exact ((HF0.out.setK 4).setS S).drew)
 have HOZ : Hid (Xaf Z (fun b => w1.heap.size + 1 + 2 ≤ b) (w1.heap.size + 1 + 2) (.slice none 0 0) []) := lh (by rw [hZ]; exact (own_drew (Xds (fun b hb => hb) (by omega) (Xds (fun b hb => hb) (by omega) HO0.out))))
 clear hZ a0 a1 a2 a3 a4 z0 z1 z2 z3 z4 b0 b1 b2 b3 b4 f0 f1 f2 f3 f4
 obtain ⟨a0, a1, a2, a3, a4, -⟩ := HFZ.out.rows
 obtain ⟨b0, b1, b2, b3, b4, f0, f1, f2, f3, f4⟩ := HFZ.out.ress
 go_wp2
 refine bodyPost_ret (v := .agg #[.int .i64 4, .int .i64 U, .int .i64 0, .string S, (.slice none 0 0)]) ?_ rfl ?_
 · clear HFZ HOZ
   simp [results, Tryz.results125, go_sem, b0, b1, b2, b3, b4]
 · rw [HM.out]
   exact HFZ.out.done HOZ.out rfl HU.out rfl HS.out (by have := HL.out; simp [Ex.name]; omega) rfl
theorem Xsn {L n : Nat} {w : World} {B R : Nat} {us : List Tok} (h : RdAt w B R L us) (hB : B ≤ w.heap.size) (ho : opensB us = false) (hM : Xah L n us = .bad (plc L us) 20) (D : Int) :
  Calls Tryz.prog 110 #[.pointer (some ⟨R, 0, none⟩), .int .i64 D] w (Xaj (ExB w.heap.size) w B R L (Xah L n us)) := by
 obtain ⟨X, hX⟩ : ∃ X : World, X = w.alloc (.cells #[.int .i64 0, .int .i64 0, .int .i64 0, .string ⟨#[]⟩, .slice none 0 0] 152) := ⟨_, rfl⟩
 have hbx : Below w.heap.size w X := by rw [hX]; exact Xae _ _
 have HO := lh (Xii (h.below' hB hbx) (Nat.le_trans hB hbx.size))
 have HR := lh (h.below' hB hbx)
 have HB := lh hB
 have HX := lh hX
 have HBX := lh hbx
 rw [ho] at HO
 have HM := lh hM
 clear hX hbx h hB ho hM
 go_enter Tryz.func110, Tryz.ntmps110
 go_wp2_with fail
 rw [← HX.out]
 refine HO.out.mono ?_
 rintro e w1 ⟨rfl, hb⟩
 have HB1 := lh hb
 clear hb
 go_wp2_with fail
 refine (Xel (HR.out.below' (Nat.le_trans HB.out HBX.out.size) HB1.out) 20).mono ?_
 rintro e wm ⟨rfl, hb⟩
 have HC := lh ((Chg.of_below (P := fun b => b = R) HBX.out).up (Chg.of_below (HB1.out.trans (hb.mono HB1.out.size))))
 clear hb
 unfold Xag
 go_wp2
 rw [HM.out]
 exact ⟨rfl, rfl, HC.out⟩
theorem Xzk {L : Nat} {w : World} {B R : Nat} {us : List Tok} (h : RdAt w B R L us) (hB : B ≤ w.heap.size) (ho : opensB us = true) (hM : Xah L 0 us = .bad (plc L us) 21) :
  Calls Tryz.prog 110 #[.pointer (some ⟨R, 0, none⟩), .int .i64 25] w (Xaj (ExB w.heap.size) w B R L (Xah L 0 us)) := by
 obtain ⟨X, hX⟩ : ∃ X : World, X = w.alloc (.cells #[.int .i64 0, .int .i64 0, .int .i64 0, .string ⟨#[]⟩, .slice none 0 0] 152) := ⟨_, rfl⟩
 have hbx : Below w.heap.size w X := by rw [hX]; exact Xae _ _
 have HO := lh (Xii (h.below' hB hbx) (Nat.le_trans hB hbx.size))
 have HR := lh (h.below' hB hbx)
 have HB := lh hB
 have HX := lh hX
 have HBX := lh hbx
 rw [ho] at HO
 have HM := lh hM
 clear hX hbx h hB ho hM
 go_enter Tryz.func110, Tryz.ntmps110
 go_wp2_with fail
 rw [← HX.out]
 refine HO.out.mono ?_
 rintro e w1 ⟨rfl, hb⟩
 have HB1 := lh hb
 clear hb
 go_wp2_with fail
 refine (Xcb _ _ _).mono ?_
 rintro e wm ⟨rfl, rfl⟩
 go_wp2_with fail
 refine (Xel (HR.out.below' (Nat.le_trans HB.out HBX.out.size) HB1.out) 21).mono ?_
 rintro e wm ⟨rfl, hb⟩
 have HC := lh ((Chg.of_below (P := fun b => b = R) HBX.out).up (Chg.of_below (HB1.out.trans (hb.mono HB1.out.size))))
 clear hb
 unfold Xag
 go_wp2
 rw [HM.out]
 exact ⟨rfl, rfl, HC.out⟩
theorem Xzl {L n : Nat} (hn : n ≤ 24) (hF : Xws L n) {w : World} {B R : Nat} {us : List Tok} (h : RdAt w B R L us) (hB : B ≤ w.heap.size) (ho : opensB us = true) {p c : Nat} (hx : Xch L (Xah L n) us = .bad p c) (D : Int) (hD : D = 24 - (n : Nat)) (hM : Xah L (n + 1) us = .bad p c) :
  Calls Tryz.prog 110 #[.pointer (some ⟨R, 0, none⟩), .int .i64 D] w (Xaj (ExB w.heap.size) w B R L (Xah L (n + 1) us)) := by
 obtain ⟨X, hX⟩ : ∃ X : World, X = w.alloc (.cells #[.int .i64 0, .int .i64 0, .int .i64 0, .string ⟨#[]⟩, .slice none 0 0] 152) := ⟨_, rfl⟩
 have hbx : Below w.heap.size w X := by rw [hX]; exact Xae _ _
 have HO := lh (Xii (h.below' hB hbx) (Nat.le_trans hB hbx.size))
 have HR := lh (h.below' hB hbx)
 have HB := lh hB
 have HX := lh hX
 have HBX := lh hbx
 rw [ho] at HO
 have HM := lh hM
 have HFC : Hid (∀ wx, Below X.heap.size X wx → Calls Tryz.prog 125 #[.pointer (some ⟨R, 0, none⟩), .int .i64 D] wx fun e w' => e = Xag p c ∧ Chg (fun b => b = R) wx w') := lh fun wx hb => by
  have h1 := hF wx B R us (h.below' hB (hbx.trans (hb.mono hbx.size))) (Nat.le_trans hB (Nat.le_trans hbx.size hb.size)) ho
  rw [hx, ← hD] at h1
  exact h1
 have hD1 : D ≤ 24 := by omega
 clear hX hbx h hB ho hM hF hx hD hn
 go_enter Tryz.func110, Tryz.ntmps110
 go_wp2_with fail
 rw [← HX.out]
 refine HO.out.mono ?_
 rintro e w1 ⟨rfl, hb⟩
 have HB1 := lh hb
 clear hb
 go_wp2_with fail
 refine (Xcb _ _ _).mono ?_
 rintro e wm ⟨rfl, rfl⟩
 go_wp2_with fail
 refine (Xcb _ _ _).mono ?_
 rintro e wm ⟨rfl, rfl⟩
 go_wp2_with fail
 refine (HFC.out w1 HB1.out).mono ?_
 rintro e w2 ⟨rfl, hc⟩
 have HC := lh ((Chg.of_below (P := fun b => b = R) HBX.out).up ((Chg.of_below HB1.out).up hc))
 clear hc
 unfold Xag
 go_wp2
 rw [HM.out]
 exact ⟨rfl, rfl, HC.out⟩
theorem Ycs (L : Nat) : Xrw L 0 := by
 intro w B R us h hB
 show Calls Tryz.prog _ #[.pointer (some ⟨R, 0, none⟩), .int .i64 25] w _
 cases ho : opensB us with
 | false => exact Xsn h hB ho (by rw [Xah, if_neg (by rw [ho]; decide)]) 25
 | true => exact Xzk h hB ho (by rw [Xah, if_pos ho])
theorem Ycr {L n : Nat} (hn : n ≤ 24) (hE : Xrw L n) (hF : Xws L n) : Xrw L (n + 1) := by
 intro w B R us h hB
 have hD : (25 - ((n + 1 : Nat) : Int)) = 24 - (n : Nat) := by omega
 rw [hD]
 cases ho : opensB us with
 | false => exact Xsn h hB ho (by rw [Xah, if_neg (by rw [ho]; decide)]) _
 | true =>
   have hM : Xah L (n + 1) us = (Xch L (Xah L n) us).bind fun e r => Xdc L (Xah L n) 8 e r := by rw [Xah, if_pos ho]
   cases hx : Xch L (Xah L n) us with
   | bad p c => exact Xzl hn hF h hB ho hx _ rfl (hM.trans (Xam hx))
   | ok e0 r0 =>
     rw [hM.trans (Xap hx)]
     exact Ycq hn hE hF h hB ho hx _ rfl
end Go.Proofs.YtbckeljbpknbdaaGreatDoor
