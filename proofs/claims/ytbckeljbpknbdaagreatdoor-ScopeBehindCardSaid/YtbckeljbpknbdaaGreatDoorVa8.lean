/- Fk -/
import Derived.Test.YtbckeljbpknbdaaGreatDoorVb0
set_option linter.unusedVariables false
set_option linter.unusedSimpArgs false
namespace Go.Proofs.YtbckeljbpknbdaaGreatDoor
open Go.RowKit
theorem Xav.size {w Z : World} {B R L E : Nat} {D kd U m : Int} {s : ByteArray} {v : Value} {us : List Tok} (h : Xav w B R L E D kd U m s Z v us) : B ≤ Z.heap.size := by have := Xac h.arg; have := h.lo; have := h.hB; omega
theorem Xav.rlo {w Z : World} {B R L E : Nat} {D kd U m : Int} {s : ByteArray} {v : Value} {us : List Tok} (h : Xav w B R L E D kd U m s Z v us) : R < E + 2 := by have := h.rd.lt; have := h.hB; have := h.lo; omega
theorem Xav.drew {w Z : World} {B R L E : Nat} {D kd U m : Int} {s : ByteArray} {v : Value} {us : List Tok} (h : Xav w B R L E D kd U m s Z v us) : Xav w B R L E D kd U m s Z.drew v us := h.step h.rd.drew (Chg.refl _ Z).drew
theorem own_drew {Z : World} {P : Nat → Prop} {base : Nat} {v : Value} {xs : List Ex} (h : Xaf Z P base v xs) : Xaf Z.drew P base v xs := Xaf.keep h (Nat.le_refl _) fun _ _ _ => rfl
set_option maxRecDepth 100000 in
set_option maxHeartbeats 4000000 in
theorem Ycz {w : World} {B R L n : Nat} {t : Tok} {r : List Tok} (h : RdAt w B R L (t :: r)) (hB : B ≤ w.heap.size) (D : Int) (hD0 : 0 ≤ D) (hD1 : D ≤ 24)
  (hE : ∀ (w : World) (us : List Tok), RdAt w B R L us → B ≤ w.heap.size → Calls Tryz.prog 110 #[.pointer (some ⟨R, 0, none⟩), .int .i64 (D + 1)] w (Xaj (ExB w.heap.size) w B R L (Xah L n us))) (ht : t.text = [110, 101, 119])
  {T : Rd Ex} (hM : T = (Xbo L r).map fun s => .mk 11 t.pl 0 s []) : Calls Tryz.prog 125 #[.pointer (some ⟨R, 0, none⟩), .int .i64 D] w (Xaj (ExB w.heap.size) w B R L T) := by
 have HHR := lh h
 obtain ⟨X, hX⟩ : ∃ X : World, X = ((w.alloc (.cells #[.pointer (some ⟨R, 0, none⟩)] 52)).alloc (.cells #[.int .i64 D] 3)).alloc (.cells #[.int .i64 0, .int .i64 0, .int .i64 0, .string ⟨#[]⟩, .slice none 0 0] 152) := ⟨_, rfl⟩
 have hbX : Below w.heap.size w X := by rw [hX]; exact ((Xae _ _).alloc (by simp) _).alloc (by simp; omega) _
 have hx0 : X.cell? ⟨w.heap.size, 0, none⟩ = some (.pointer (some ⟨R, 0, none⟩)) := by
  rw [hX]
  have h0 : (w.alloc (.cells #[.pointer (some ⟨R, 0, none⟩)] 52)).cell? ⟨w.heap.size, 0, none⟩ = some (.pointer (some ⟨R, 0, none⟩)) := by
   rw [cell_of_row _ _ 0 _ _ (0, 0) (heap_alloc_new w _)]; rfl
  exact Xaa (Xaa h0 _) _
 have HP := lh (Xbn (h.below' hB hbX) (Nat.le_trans hB hbX.size))
 obtain ⟨K, hK⟩ : ∃ K : Int, K = (t.kind : Nat) := ⟨_, rfl⟩
 obtain ⟨S, hS⟩ : ∃ S, S = Xab t.text := ⟨_, rfl⟩
 obtain ⟨U, hU⟩ : ∃ U : Int, U = (t.pl : Nat) := ⟨_, rfl⟩
 rw [← hK, ← hS, ← hU] at HP
 have HX := lh hX
 have HB := lh hB
 have HRW := lh (show R < w.heap.size by have := h.lt; omega)
 have HU := lh hU
 have HE := lh hE
 have HS := lh hS
 have HK := lh hK
 have hst : S.toList = [110, 101, 119] := by rw [hS, Xad, ht]
 have HM := lh hM
 clear h hB hbX hU hX hE hS hK hM ht
 go_enter Tryz.func125, Tryz.ntmps125
 go_wp2_with fail
 rw [← HX.out]
 refine HP.out.mono ?_
 rintro e w1 ⟨rfl, hr, hc⟩
 have HR1 := lh hr
 have HC1 := lh hc
 clear hr hc hx0
 go_upto_region 5 with (fail)
 obtain ⟨Y, hY⟩ : ∃ Y : World, Y = ((w1.alloc (.cells #[.int .i64 K, .string S, .int .i64 U] 76)).alloc (.cells #[.int .i64 0, .int .i64 U, .int .i64 0, .string ⟨#[]⟩, .slice none 0 0] 152)).alloc
    (.cells #[.func (.func 132) #[] #[.pointer (some ⟨w1.heap.size + 1, 0, none⟩), .pointer (some ⟨w.heap.size, 0, none⟩), .pointer (some ⟨w.heap.size + 1, 0, none⟩)]] 1) := ⟨_, rfl⟩
 rw [← hY]
 obtain ⟨hf, ht0, hbY⟩ := Xck HB.out HRW.out HX.out HR1.out HC1.out _ hY
 have HFR : Hid (Y.heap[w1.heap.size]? = some (.cells #[.int .i64 K, .string S, .int .i64 U] 76 (0, 0))) := lh ht0
 obtain ⟨k0, k1, k2, -⟩ := row3 ht0
 have HF0 := lh hf
 have HO0 : Hid (Xaf Y (fun b => w1.heap.size + 1 + 2 ≤ b) (w1.heap.size + 1 + 2) (.slice none 0 0) []) := lh (Xaf.nil _ _ _)
 obtain ⟨q0, q1, q2⟩ := hf.cells
 obtain ⟨a0, a1, a2, a3, a4, z0, z1, z2, z3, z4⟩ := hf.rows
 obtain ⟨b0, b1, b2, b3, b4, f0, f1, f2, f3, f4⟩ := hf.ress
 clear hf ht0 hbY hY
 go_wp2_with fail
 refine (Xcr HF0.out.rd HF0.out.size).mono ?_
 rintro e w2 hp
 cases hx : Xbo L r with
 | bad p c =>
   have HM := lh (HM.out.trans (Xbc hx))
   rw [hx] at hp
   obtain ⟨rfl, hc⟩ := hp
   have HC2 := lh (HF0.out.chg.up hc)
   clear hx hc
   unfold Xag
   go_wp2
   rw [HM.out]
   exact ⟨rfl, rfl, HC2.out⟩
 | ok x2 u2 =>
   have HM := lh (HM.out.trans (Xbi hx))
   rw [hx] at hp
   obtain ⟨⟨v2, rfl, hv⟩, hr, hc⟩ := hp
   have HF2 := lh (HF0.out.step hr hc)
   have HO2 := lh (Xaq (fun b hb e => by have := HF0.out.rlo; omega) HF0.out.rlo HO0.out hc)
   clear hx hr hc q0 q1 q2 a0 a1 a2 a3 a4 z0 z1 z2 z3 z4 b0 b1 b2 b3 b4 f0 f1 f2 f3 f4
   obtain ⟨q0, q1, q2⟩ := HF2.out.cells
   obtain ⟨a0, a1, a2, a3, a4, z0, z1, z2, z3, z4⟩ := HF2.out.rows
   obtain ⟨b0, b1, b2, b3, b4, f0, f1, f2, f3, f4⟩ := HF2.out.ress
   obtain ⟨rfl, hl⟩ := hv
   have HL := lh hl
   clear hl
   go_upto_region 34 with (fail)
   obtain ⟨Z, hZ⟩ : ∃ Z : World, Z = ((w2.setCell ⟨w1.heap.size + 1, 0, none⟩ (.int .i64 11)).setCell ⟨w1.heap.size + 1, 3, none⟩ (.string (Xab x2))) := ⟨_, rfl⟩
   rw [← hZ]
   have HFZ : Hid (Xav w B R L (w1.heap.size + 1) D 11 U 0 (Xab x2) Z (.slice none 0 0) _) := lh (by rw [hZ]; exact ((HF2.out.setK 11).setS (Xab x2)))
   have HOZ : Hid (Xaf Z (fun b => w1.heap.size + 1 + 2 ≤ b) (w1.heap.size + 1 + 2) (.slice none 0 0) []) := lh (by rw [hZ]; exact (Xds (fun b hb => hb) (by omega) (Xds (fun b hb => hb) (by omega) HO2.out)))
   clear hZ a0 a1 a2 a3 a4 z0 z1 z2 z3 z4 b0 b1 b2 b3 b4 f0 f1 f2 f3 f4
   obtain ⟨a0, a1, a2, a3, a4, -⟩ := HFZ.out.rows
   obtain ⟨b0, b1, b2, b3, b4, f0, f1, f2, f3, f4⟩ := HFZ.out.ress
   go_wp2
   refine bodyPost_ret (v := .agg #[.int .i64 11, .int .i64 U, .int .i64 0, .string (Xab x2), (.slice none 0 0)]) ?_ rfl ?_
   · clear HFZ HOZ
     simp [results, Tryz.results125, go_sem, b0, b1, b2, b3, b4]
   · rw [HM.out]
     exact HFZ.out.done HOZ.out rfl HU.out rfl rfl (by have := HL.out; simp [Ex.name]; omega) rfl
set_option maxRecDepth 100000 in
set_option maxHeartbeats 4000000 in
theorem Xqz {w : World} {B R L n : Nat} {t : Tok} {r : List Tok} (h : RdAt w B R L (t :: r)) (hB : B ≤ w.heap.size) (D : Int) (hD0 : 0 ≤ D) (hD1 : D ≤ 24)
  (hE : ∀ (w : World) (us : List Tok), RdAt w B R L us → B ≤ w.heap.size → Calls Tryz.prog 110 #[.pointer (some ⟨R, 0, none⟩), .int .i64 (D + 1)] w (Xaj (ExB w.heap.size) w B R L (Xah L n us))) (ht : t.text = [114, 101, 108, 101, 97, 115, 101])
  {T : Rd Ex} (hM : T = (Xbo L r).map fun s => .mk 13 t.pl 0 s []) : Calls Tryz.prog 125 #[.pointer (some ⟨R, 0, none⟩), .int .i64 D] w (Xaj (ExB w.heap.size) w B R L T) := by
 have HHR := lh h
 obtain ⟨X, hX⟩ : ∃ X : World, X = ((w.alloc (.cells #[.pointer (some ⟨R, 0, none⟩)] 52)).alloc (.cells #[.int .i64 D] 3)).alloc (.cells #[.int .i64 0, .int .i64 0, .int .i64 0, .string ⟨#[]⟩, .slice none 0 0] 152) := ⟨_, rfl⟩
 have hbX : Below w.heap.size w X := by rw [hX]; exact ((Xae _ _).alloc (by simp) _).alloc (by simp; omega) _
 have hx0 : X.cell? ⟨w.heap.size, 0, none⟩ = some (.pointer (some ⟨R, 0, none⟩)) := by
  rw [hX]
  have h0 : (w.alloc (.cells #[.pointer (some ⟨R, 0, none⟩)] 52)).cell? ⟨w.heap.size, 0, none⟩ = some (.pointer (some ⟨R, 0, none⟩)) := by
   rw [cell_of_row _ _ 0 _ _ (0, 0) (heap_alloc_new w _)]; rfl
  exact Xaa (Xaa h0 _) _
 have HP := lh (Xbn (h.below' hB hbX) (Nat.le_trans hB hbX.size))
 obtain ⟨K, hK⟩ : ∃ K : Int, K = (t.kind : Nat) := ⟨_, rfl⟩
 obtain ⟨S, hS⟩ : ∃ S, S = Xab t.text := ⟨_, rfl⟩
 obtain ⟨U, hU⟩ : ∃ U : Int, U = (t.pl : Nat) := ⟨_, rfl⟩
 rw [← hK, ← hS, ← hU] at HP
 have HX := lh hX
 have HB := lh hB
 have HRW := lh (show R < w.heap.size by have := h.lt; omega)
 have HU := lh hU
 have HE := lh hE
 have HS := lh hS
 have HK := lh hK
 have hst : S.toList = [114, 101, 108, 101, 97, 115, 101] := by rw [hS, Xad, ht]
 have HM := lh hM
 clear h hB hbX hU hX hE hS hK hM ht
 go_enter Tryz.func125, Tryz.ntmps125
 go_wp2_with fail
 rw [← HX.out]
 refine HP.out.mono ?_
 rintro e w1 ⟨rfl, hr, hc⟩
 have HR1 := lh hr
 have HC1 := lh hc
 clear hr hc hx0
 go_upto_region 5 with (fail)
 obtain ⟨Y, hY⟩ : ∃ Y : World, Y = ((w1.alloc (.cells #[.int .i64 K, .string S, .int .i64 U] 76)).alloc (.cells #[.int .i64 0, .int .i64 U, .int .i64 0, .string ⟨#[]⟩, .slice none 0 0] 152)).alloc
    (.cells #[.func (.func 132) #[] #[.pointer (some ⟨w1.heap.size + 1, 0, none⟩), .pointer (some ⟨w.heap.size, 0, none⟩), .pointer (some ⟨w.heap.size + 1, 0, none⟩)]] 1) := ⟨_, rfl⟩
 rw [← hY]
 obtain ⟨hf, ht0, hbY⟩ := Xck HB.out HRW.out HX.out HR1.out HC1.out _ hY
 have HFR : Hid (Y.heap[w1.heap.size]? = some (.cells #[.int .i64 K, .string S, .int .i64 U] 76 (0, 0))) := lh ht0
 obtain ⟨k0, k1, k2, -⟩ := row3 ht0
 have HF0 := lh hf
 have HO0 : Hid (Xaf Y (fun b => w1.heap.size + 1 + 2 ≤ b) (w1.heap.size + 1 + 2) (.slice none 0 0) []) := lh (Xaf.nil _ _ _)
 obtain ⟨q0, q1, q2⟩ := hf.cells
 obtain ⟨a0, a1, a2, a3, a4, z0, z1, z2, z3, z4⟩ := hf.rows
 obtain ⟨b0, b1, b2, b3, b4, f0, f1, f2, f3, f4⟩ := hf.ress
 clear hf ht0 hbY hY
 go_wp2_with fail
 refine (Xcr HF0.out.rd HF0.out.size).mono ?_
 rintro e w2 hp
 cases hx : Xbo L r with
 | bad p c =>
   have HM := lh (HM.out.trans (Xbc hx))
   rw [hx] at hp
   obtain ⟨rfl, hc⟩ := hp
   have HC2 := lh (HF0.out.chg.up hc)
   clear hx hc
   unfold Xag
   go_wp2
   rw [HM.out]
   exact ⟨rfl, rfl, HC2.out⟩
 | ok x2 u2 =>
   have HM := lh (HM.out.trans (Xbi hx))
   rw [hx] at hp
   obtain ⟨⟨v2, rfl, hv⟩, hr, hc⟩ := hp
   have HF2 := lh (HF0.out.step hr hc)
   have HO2 := lh (Xaq (fun b hb e => by have := HF0.out.rlo; omega) HF0.out.rlo HO0.out hc)
   clear hx hr hc q0 q1 q2 a0 a1 a2 a3 a4 z0 z1 z2 z3 z4 b0 b1 b2 b3 b4 f0 f1 f2 f3 f4
   obtain ⟨q0, q1, q2⟩ := HF2.out.cells
   obtain ⟨a0, a1, a2, a3, a4, z0, z1, z2, z3, z4⟩ := HF2.out.rows
   obtain ⟨b0, b1, b2, b3, b4, f0, f1, f2, f3, f4⟩ := HF2.out.ress
   obtain ⟨rfl, hl⟩ := hv
   have HL := lh hl
   clear hl
   go_upto_region 34 with (fail)
   obtain ⟨Z, hZ⟩ : ∃ Z : World, Z = ((w2.setCell ⟨w1.heap.size + 1, 0, none⟩ (.int .i64 13)).setCell ⟨w1.heap.size + 1, 3, none⟩ (.string (Xab x2))) := ⟨_, rfl⟩
   rw [← hZ]
   have HFZ : Hid (Xav w B R L (w1.heap.size + 1) D 13 U 0 (Xab x2) Z (.slice none 0 0) _) := lh (by rw [hZ]; exact ((HF2.out.setK 13).setS (Xab x2)))
   have HOZ : Hid (Xaf Z (fun b => w1.heap.size + 1 + 2 ≤ b) (w1.heap.size + 1 + 2) (.slice none 0 0) []) := lh (by rw [hZ]; exact (Xds (fun b hb => hb) (by omega) (Xds (fun b hb => hb) (by omega) HO2.out)))
   clear hZ a0 a1 a2 a3 a4 z0 z1 z2 z3 z4 b0 b1 b2 b3 b4 f0 f1 f2 f3 f4
   obtain ⟨a0, a1, a2, a3, a4, -⟩ := HFZ.out.rows
   obtain ⟨b0, b1, b2, b3, b4, f0, f1, f2, f3, f4⟩ := HFZ.out.ress
   go_wp2
   refine bodyPost_ret (v := .agg #[.int .i64 13, .int .i64 U, .int .i64 0, .string (Xab x2), (.slice none 0 0)]) ?_ rfl ?_
   · clear HFZ HOZ
     simp [results, Tryz.results125, go_sem, b0, b1, b2, b3, b4]
   · rw [HM.out]
     exact HFZ.out.done HOZ.out rfl HU.out rfl rfl (by have := HL.out; simp [Ex.name]; omega) rfl
set_option maxRecDepth 100000 in
set_option maxHeartbeats 4000000 in
theorem Ycy {w : World} {B R L n : Nat} {t : Tok} {r : List Tok} (h : RdAt w B R L (t :: r)) (hB : B ≤ w.heap.size) (D : Int) (hD0 : 0 ≤ D) (hD1 : D ≤ 24)
  (hE : ∀ (w : World) (us : List Tok), RdAt w B R L us → B ≤ w.heap.size → Calls Tryz.prog 110 #[.pointer (some ⟨R, 0, none⟩), .int .i64 (D + 1)] w (Xaj (ExB w.heap.size) w B R L (Xah L n us))) (ht : t.text = [108, 101, 110])
  {T : Rd Ex} (hM : T = (brM L (Xah L n) r).map fun a => .mk 8 t.pl 0 [] [a]) : Calls Tryz.prog 125 #[.pointer (some ⟨R, 0, none⟩), .int .i64 D] w (Xaj (ExB w.heap.size) w B R L T) := by
 have HHR := lh h
 obtain ⟨X, hX⟩ : ∃ X : World, X = ((w.alloc (.cells #[.pointer (some ⟨R, 0, none⟩)] 52)).alloc (.cells #[.int .i64 D] 3)).alloc (.cells #[.int .i64 0, .int .i64 0, .int .i64 0, .string ⟨#[]⟩, .slice none 0 0] 152) := ⟨_, rfl⟩
 have hbX : Below w.heap.size w X := by rw [hX]; exact ((Xae _ _).alloc (by simp) _).alloc (by simp; omega) _
 have hx0 : X.cell? ⟨w.heap.size, 0, none⟩ = some (.pointer (some ⟨R, 0, none⟩)) := by
  rw [hX]
  have h0 : (w.alloc (.cells #[.pointer (some ⟨R, 0, none⟩)] 52)).cell? ⟨w.heap.size, 0, none⟩ = some (.pointer (some ⟨R, 0, none⟩)) := by
   rw [cell_of_row _ _ 0 _ _ (0, 0) (heap_alloc_new w _)]; rfl
  exact Xaa (Xaa h0 _) _
 have HP := lh (Xbn (h.below' hB hbX) (Nat.le_trans hB hbX.size))
 obtain ⟨K, hK⟩ : ∃ K : Int, K = (t.kind : Nat) := ⟨_, rfl⟩
 obtain ⟨S, hS⟩ : ∃ S, S = Xab t.text := ⟨_, rfl⟩
 obtain ⟨U, hU⟩ : ∃ U : Int, U = (t.pl : Nat) := ⟨_, rfl⟩
 rw [← hK, ← hS, ← hU] at HP
 have HX := lh hX
 have HB := lh hB
 have HRW := lh (show R < w.heap.size by have := h.lt; omega)
 have HU := lh hU
 have HE := lh hE
 have HS := lh hS
 have HK := lh hK
 have hst : S.toList = [108, 101, 110] := by rw [hS, Xad, ht]
 have HM := lh hM
 clear h hB hbX hU hX hE hS hK hM ht
 go_enter Tryz.func125, Tryz.ntmps125
 go_wp2_with fail
 rw [← HX.out]
 refine HP.out.mono ?_
 rintro e w1 ⟨rfl, hr, hc⟩
 have HR1 := lh hr
 have HC1 := lh hc
 clear hr hc hx0
 go_upto_region 5 with (fail)
 obtain ⟨Y, hY⟩ : ∃ Y : World, Y = ((w1.alloc (.cells #[.int .i64 K, .string S, .int .i64 U] 76)).alloc (.cells #[.int .i64 0, .int .i64 U, .int .i64 0, .string ⟨#[]⟩, .slice none 0 0] 152)).alloc
    (.cells #[.func (.func 132) #[] #[.pointer (some ⟨w1.heap.size + 1, 0, none⟩), .pointer (some ⟨w.heap.size, 0, none⟩), .pointer (some ⟨w.heap.size + 1, 0, none⟩)]] 1) := ⟨_, rfl⟩
 rw [← hY]
 obtain ⟨hf, ht0, hbY⟩ := Xck HB.out HRW.out HX.out HR1.out HC1.out _ hY
 have HFR : Hid (Y.heap[w1.heap.size]? = some (.cells #[.int .i64 K, .string S, .int .i64 U] 76 (0, 0))) := lh ht0
 obtain ⟨k0, k1, k2, -⟩ := row3 ht0
 have HF0 := lh hf
 have HO0 : Hid (Xaf Y (fun b => w1.heap.size + 1 + 2 ≤ b) (w1.heap.size + 1 + 2) (.slice none 0 0) []) := lh (Xaf.nil _ _ _)
 obtain ⟨q0, q1, q2⟩ := hf.cells
 obtain ⟨a0, a1, a2, a3, a4, z0, z1, z2, z3, z4⟩ := hf.rows
 obtain ⟨b0, b1, b2, b3, b4, f0, f1, f2, f3, f4⟩ := hf.ress
 clear hf ht0 hbY hY
 go_wp2_with fail
 obtain ⟨w2, hW⟩ : ∃ Z : World, Z = (Y.setCell ⟨w1.heap.size + 1, 0, none⟩ (.int .i64 8)) := ⟨_, rfl⟩
 rw [← hW]
 have HF2 : Hid (Xav w B R L (w1.heap.size + 1) D 8 U 0 ⟨#[]⟩ w2 (.slice none 0 0) _) := lh (by rw [hW]; exact (HF0.out.setK 8))
 have HO2 : Hid (Xaf w2 (fun b => w1.heap.size + 1 + 2 ≤ b) (w1.heap.size + 1 + 2) (.slice none 0 0) []) := lh (by rw [hW]; exact (Xds (fun b hb => hb) (by omega) HO0.out))
 clear hW q0 q1 q2 a0 a1 a2 a3 a4 z0 z1 z2 z3 z4 b0 b1 b2 b3 b4 f0 f1 f2 f3 f4
 obtain ⟨q0, q1, q2⟩ := HF2.out.cells
 obtain ⟨a0, a1, a2, a3, a4, z0, z1, z2, z3, z4⟩ := HF2.out.rows
 obtain ⟨b0, b1, b2, b3, b4, f0, f1, f2, f3, f4⟩ := HF2.out.ress
 refine (br_any HF2.out HO2.out (by simp) hD0 hD1 HE.out).mono ?_
 rintro e w3 hp
 cases hx : brM L (Xah L n) r with
 | bad p c =>
   have HM := lh (HM.out.trans (Xbc hx))
   rw [hx] at hp
   obtain ⟨rfl, hc⟩ := hp
   have HC3 := lh hc
   clear hx hc
   unfold Xag
   go_wp2
   rw [HM.out]
   exact ⟨rfl, rfl, HC3.out⟩
 | ok x3 u3 =>
   have HM := lh (HM.out.trans (Xbi hx))
   rw [hx] at hp
   obtain ⟨rfl, A, z, c, hf, ho⟩ := hp
   have HF3 := lh hf
   have HO3 := lh ho
   clear hx hf ho q0 q1 q2 a0 a1 a2 a3 a4 z0 z1 z2 z3 z4 b0 b1 b2 b3 b4 f0 f1 f2 f3 f4
   obtain ⟨q0, q1, q2⟩ := HF3.out.cells
   obtain ⟨a0, a1, a2, a3, a4, z0, z1, z2, z3, z4⟩ := HF3.out.rows
   obtain ⟨b0, b1, b2, b3, b4, f0, f1, f2, f3, f4⟩ := HF3.out.ress
   go_upto_region 34 with (fail)
   obtain ⟨Z, hZ⟩ : ∃ Z : World, Z = w3 := ⟨_, rfl⟩
   rw [← hZ]
   have HFZ : Hid (Xav w B R L (w1.heap.size + 1) D 8 U 0 ⟨#[]⟩ Z (.slice A z c) _) := lh (by rw [hZ]; exact HF3.out)
   have HOZ : Hid (Xaf Z (fun b => w1.heap.size + 1 + 2 ≤ b) (w1.heap.size + 1 + 2) (.slice A z c) [x3]) := lh (by rw [hZ]; exact HO3.out)
   clear hZ a0 a1 a2 a3 a4 z0 z1 z2 z3 z4 b0 b1 b2 b3 b4 f0 f1 f2 f3 f4
   obtain ⟨a0, a1, a2, a3, a4, -⟩ := HFZ.out.rows
   obtain ⟨b0, b1, b2, b3, b4, f0, f1, f2, f3, f4⟩ := HFZ.out.ress
   go_wp2
   refine bodyPost_ret (v := .agg #[.int .i64 8, .int .i64 U, .int .i64 0, .string ⟨#[]⟩, (.slice A z c)]) ?_ rfl ?_
   · clear HFZ HOZ
     simp [results, Tryz.results125, go_sem, b0, b1, b2, b3, b4]
   · rw [HM.out]
     exact HFZ.out.done HOZ.out rfl HU.out rfl rfl (by simp [Ex.name]) rfl
set_option maxRecDepth 100000 in
set_option maxHeartbeats 4000000 in
theorem Xzp {w : World} {B R L n : Nat} {t : Tok} {r : List Tok} (h : RdAt w B R L (t :: r)) (hB : B ≤ w.heap.size) (D : Int) (hD0 : 0 ≤ D) (hD1 : D ≤ 24)
  (hE : ∀ (w : World) (us : List Tok), RdAt w B R L us → B ≤ w.heap.size → Calls Tryz.prog 110 #[.pointer (some ⟨R, 0, none⟩), .int .i64 (D + 1)] w (Xaj (ExB w.heap.size) w B R L (Xah L n us))) (ht : t.text = [109, 97, 107, 101])
  {T : Rd Ex} (hM : T = (brM L (Xah L n) r).map fun a => .mk 12 t.pl 0 [] [a]) : Calls Tryz.prog 125 #[.pointer (some ⟨R, 0, none⟩), .int .i64 D] w (Xaj (ExB w.heap.size) w B R L T) := by
 have HHR := lh h
 obtain ⟨X, hX⟩ : ∃ X : World, X = ((w.alloc (.cells #[.pointer (some ⟨R, 0, none⟩)] 52)).alloc (.cells #[.int .i64 D] 3)).alloc (.cells #[.int .i64 0, .int .i64 0, .int .i64 0, .string ⟨#[]⟩, .slice none 0 0] 152) := ⟨_, rfl⟩
 have hbX : Below w.heap.size w X := by rw [hX]; exact ((Xae _ _).alloc (by simp) _).alloc (by simp; omega) _
 have hx0 : X.cell? ⟨w.heap.size, 0, none⟩ = some (.pointer (some ⟨R, 0, none⟩)) := by
  rw [hX]
  have h0 : (w.alloc (.cells #[.pointer (some ⟨R, 0, none⟩)] 52)).cell? ⟨w.heap.size, 0, none⟩ = some (.pointer (some ⟨R, 0, none⟩)) := by
   rw [cell_of_row _ _ 0 _ _ (0, 0) (heap_alloc_new w _)]; rfl
  exact Xaa (Xaa h0 _) _
 have HP := lh (Xbn (h.below' hB hbX) (Nat.le_trans hB hbX.size))
 obtain ⟨K, hK⟩ : ∃ K : Int, K = (t.kind : Nat) := ⟨_, rfl⟩
 obtain ⟨S, hS⟩ : ∃ S, S = Xab t.text := ⟨_, rfl⟩
 obtain ⟨U, hU⟩ : ∃ U : Int, U = (t.pl : Nat) := ⟨_, rfl⟩
 rw [← hK, ← hS, ← hU] at HP
 have HX := lh hX
 have HB := lh hB
 have HRW := lh (show R < w.heap.size by have := h.lt; omega)
 have HU := lh hU
 have HE := lh hE
 have HS := lh hS
 have HK := lh hK
 have hst : S.toList = [109, 97, 107, 101] := by rw [hS, Xad, ht]
 have HM := lh hM
 clear h hB hbX hU hX hE hS hK hM ht
 go_enter Tryz.func125, Tryz.ntmps125
 go_wp2_with fail
 rw [← HX.out]
 refine HP.out.mono ?_
 rintro e w1 ⟨rfl, hr, hc⟩
 have HR1 := lh hr
 have HC1 := lh hc
 clear hr hc hx0
 go_upto_region 5 with (fail)
 obtain ⟨Y, hY⟩ : ∃ Y : World, Y = ((w1.alloc (.cells #[.int .i64 K, .string S, .int .i64 U] 76)).alloc (.cells #[.int .i64 0, .int .i64 U, .int .i64 0, .string ⟨#[]⟩, .slice none 0 0] 152)).alloc
    (.cells #[.func (.func 132) #[] #[.pointer (some ⟨w1.heap.size + 1, 0, none⟩), .pointer (some ⟨w.heap.size, 0, none⟩), .pointer (some ⟨w.heap.size + 1, 0, none⟩)]] 1) := ⟨_, rfl⟩
 rw [← hY]
 obtain ⟨hf, ht0, hbY⟩ := Xck HB.out HRW.out HX.out HR1.out HC1.out _ hY
 have HFR : Hid (Y.heap[w1.heap.size]? = some (.cells #[.int .i64 K, .string S, .int .i64 U] 76 (0, 0))) := lh ht0
 obtain ⟨k0, k1, k2, -⟩ := row3 ht0
 have HF0 := lh hf
 have HO0 : Hid (Xaf Y (fun b => w1.heap.size + 1 + 2 ≤ b) (w1.heap.size + 1 + 2) (.slice none 0 0) []) := lh (Xaf.nil _ _ _)
 obtain ⟨q0, q1, q2⟩ := hf.cells
 obtain ⟨a0, a1, a2, a3, a4, z0, z1, z2, z3, z4⟩ := hf.rows
 obtain ⟨b0, b1, b2, b3, b4, f0, f1, f2, f3, f4⟩ := hf.ress
 clear hf ht0 hbY hY
 go_wp2_with fail
 obtain ⟨w2, hW⟩ : ∃ Z : World, Z = (Y.setCell ⟨w1.heap.size + 1, 0, none⟩ (.int .i64 12)) := ⟨_, rfl⟩
 rw [← hW]
 have HF2 : Hid (Xav w B R L (w1.heap.size + 1) D 12 U 0 ⟨#[]⟩ w2 (.slice none 0 0) _) := lh (by rw [hW]; exact (HF0.out.setK 12))
 have HO2 : Hid (Xaf w2 (fun b => w1.heap.size + 1 + 2 ≤ b) (w1.heap.size + 1 + 2) (.slice none 0 0) []) := lh (by rw [hW]; exact (Xds (fun b hb => hb) (by omega) HO0.out))
 clear hW q0 q1 q2 a0 a1 a2 a3 a4 z0 z1 z2 z3 z4 b0 b1 b2 b3 b4 f0 f1 f2 f3 f4
 obtain ⟨q0, q1, q2⟩ := HF2.out.cells
 obtain ⟨a0, a1, a2, a3, a4, z0, z1, z2, z3, z4⟩ := HF2.out.rows
 obtain ⟨b0, b1, b2, b3, b4, f0, f1, f2, f3, f4⟩ := HF2.out.ress
 refine (br_any HF2.out HO2.out (by simp) hD0 hD1 HE.out).mono ?_
 rintro e w3 hp
 cases hx : brM L (Xah L n) r with
 | bad p c =>
   have HM := lh (HM.out.trans (Xbc hx))
   rw [hx] at hp
   obtain ⟨rfl, hc⟩ := hp
   have HC3 := lh hc
   clear hx hc
   unfold Xag
   go_wp2
   rw [HM.out]
   exact ⟨rfl, rfl, HC3.out⟩
 | ok x3 u3 =>
   have HM := lh (HM.out.trans (Xbi hx))
   rw [hx] at hp
   obtain ⟨rfl, A, z, c, hf, ho⟩ := hp
   have HF3 := lh hf
   have HO3 := lh ho
   clear hx hf ho q0 q1 q2 a0 a1 a2 a3 a4 z0 z1 z2 z3 z4 b0 b1 b2 b3 b4 f0 f1 f2 f3 f4
   obtain ⟨q0, q1, q2⟩ := HF3.out.cells
   obtain ⟨a0, a1, a2, a3, a4, z0, z1, z2, z3, z4⟩ := HF3.out.rows
   obtain ⟨b0, b1, b2, b3, b4, f0, f1, f2, f3, f4⟩ := HF3.out.ress
   go_upto_region 34 with (fail)
   obtain ⟨Z, hZ⟩ : ∃ Z : World, Z = w3 := ⟨_, rfl⟩
   rw [← hZ]
   have HFZ : Hid (Xav w B R L (w1.heap.size + 1) D 12 U 0 ⟨#[]⟩ Z (.slice A z c) _) := lh (by rw [hZ]; exact HF3.out)
   have HOZ : Hid (Xaf Z (fun b => w1.heap.size + 1 + 2 ≤ b) (w1.heap.size + 1 + 2) (.slice A z c) [x3]) := lh (by rw [hZ]; exact HO3.out)
   clear hZ a0 a1 a2 a3 a4 z0 z1 z2 z3 z4 b0 b1 b2 b3 b4 f0 f1 f2 f3 f4
   obtain ⟨a0, a1, a2, a3, a4, -⟩ := HFZ.out.rows
   obtain ⟨b0, b1, b2, b3, b4, f0, f1, f2, f3, f4⟩ := HFZ.out.ress
   go_wp2
   refine bodyPost_ret (v := .agg #[.int .i64 12, .int .i64 U, .int .i64 0, .string ⟨#[]⟩, (.slice A z c)]) ?_ rfl ?_
   · clear HFZ HOZ
     simp [results, Tryz.results125, go_sem, b0, b1, b2, b3, b4]
   · rw [HM.out]
     exact HFZ.out.done HOZ.out rfl HU.out rfl rfl (by simp [Ex.name]) rfl
end Go.Proofs.YtbckeljbpknbdaaGreatDoor
