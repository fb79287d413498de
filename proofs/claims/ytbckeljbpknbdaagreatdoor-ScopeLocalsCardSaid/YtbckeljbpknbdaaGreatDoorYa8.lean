/- Fk -/
import Derived.Test.YtbckeljbpknbdaaGreatDoorYb0
set_option linter.unusedVariables false
set_option linter.unusedSimpArgs false
namespace Go.Proofs.YtbckeljbpknbdaaGreatDoor
open Go.RowKit
theorem FirstFr.size {w Z : World} {B R L E : Nat} {D kd U m : Int} {s : ByteArray} {v : Value} {us : List Tok} (h : FirstFr w B R L E D kd U m s Z v us) : B ≤ Z.heap.size := by have := lt_of_heap h.arg; have := h.lo; have := h.hB; omega
theorem FirstFr.rlo {w Z : World} {B R L E : Nat} {D kd U m : Int} {s : ByteArray} {v : Value} {us : List Tok} (h : FirstFr w B R L E D kd U m s Z v us) : R < E + 2 := by have := h.rd.lt; have := h.hB; have := h.lo; omega
theorem FirstFr.drew {w Z : World} {B R L E : Nat} {D kd U m : Int} {s : ByteArray} {v : Value} {us : List Tok} (h : FirstFr w B R L E D kd U m s Z v us) : FirstFr w B R L E D kd U m s Z.drew v us := h.step h.rd.drew (Chg.refl _ Z).drew
theorem own_drew {Z : World} {P : Nat → Prop} {base : Nat} {v : Value} {xs : List Ex} (h : OwnExP Z P base v xs) : OwnExP Z.drew P base v xs := OwnExP.keep h (Nat.le_refl _) fun _ _ _ => rfl
set_option maxRecDepth 100000 in
set_option maxHeartbeats 4000000 in
theorem first_new {w : World} {B R L n : Nat} {t : Tok} {r : List Tok} (h : RdAt w B R L (t :: r)) (hB : B ≤ w.heap.size) (D : Int) (hD0 : 0 ≤ D) (hD1 : D ≤ 24)
  (hE : ∀ (w : World) (us : List Tok), RdAt w B R L us → B ≤ w.heap.size → Calls Tryz.prog 110 #[.pointer (some ⟨R, 0, none⟩), .int .i64 (D + 1)] w (RdPost (ExB w.heap.size) w B R L (exprM L n us))) (ht : t.text = [110, 101, 119])
  {T : Rd Ex} (hM : T = (nameM L r).map fun s => .mk 11 t.pl 0 s []) : Calls Tryz.prog 125 #[.pointer (some ⟨R, 0, none⟩), .int .i64 D] w (RdPost (ExB w.heap.size) w B R L T) := by
 have HHR := Lib.hid h
 obtain ⟨X, hX⟩ : ∃ X : World, X = ((w.alloc (.cells #[.pointer (some ⟨R, 0, none⟩)] 52)).alloc (.cells #[.int .i64 D] 3)).alloc (.cells #[.int .i64 0, .int .i64 0, .int .i64 0, .string ⟨#[]⟩, .slice none 0 0] 152) := ⟨_, rfl⟩
 have hbX : Below w.heap.size w X := by rw [hX]; exact ((below_new _ _).alloc (by simp) _).alloc (by simp; omega) _
 have hx0 : X.cell? ⟨w.heap.size, 0, none⟩ = some (.pointer (some ⟨R, 0, none⟩)) := by
  rw [hX]
  have h0 : (w.alloc (.cells #[.pointer (some ⟨R, 0, none⟩)] 52)).cell? ⟨w.heap.size, 0, none⟩ = some (.pointer (some ⟨R, 0, none⟩)) := by
   rw [cell_of_row _ _ 0 _ _ (0, 0) (heap_alloc_new w _)]; rfl
  exact alloc_cell (alloc_cell h0 _) _
 have HP := Lib.hid (pop_any (h.below' hB hbX) (Nat.le_trans hB hbX.size))
 obtain ⟨K, hK⟩ : ∃ K : Int, K = (t.kind : Nat) := ⟨_, rfl⟩
 obtain ⟨S, hS⟩ : ∃ S, S = strOf t.text := ⟨_, rfl⟩
 obtain ⟨U, hU⟩ : ∃ U : Int, U = (t.pl : Nat) := ⟨_, rfl⟩
 rw [← hK, ← hS, ← hU] at HP
 have HX := Lib.hid hX
 have HB := Lib.hid hB
 have HRW := Lib.hid (show R < w.heap.size by have := h.lt; omega)
 have HU := Lib.hid hU
 have HE := Lib.hid hE
 have HS := Lib.hid hS
 have HK := Lib.hid hK
 have hst : S.toList = [110, 101, 119] := by rw [hS, strOf_toList, ht]
 have HM := Lib.hid hM
 clear h hB hbX hU hX hE hS hK hM ht
 go_enter Tryz.func125, Tryz.ntmps125
 go_wp2_with fail
 rw [← HX.out]
 refine HP.out.mono ?_
 rintro e w1 ⟨rfl, hr, hc⟩
 have HR1 := Lib.hid hr
 have HC1 := Lib.hid hc
 clear hr hc hx0
 go_upto_region 5 with (fail)
 obtain ⟨Y, hY⟩ : ∃ Y : World, Y = ((w1.alloc (.cells #[.int .i64 K, .string S, .int .i64 U] 76)).alloc (.cells #[.int .i64 0, .int .i64 U, .int .i64 0, .string ⟨#[]⟩, .slice none 0 0] 152)).alloc
    (.cells #[.func (.func 132) #[] #[.pointer (some ⟨w1.heap.size + 1, 0, none⟩), .pointer (some ⟨w.heap.size, 0, none⟩), .pointer (some ⟨w.heap.size + 1, 0, none⟩)]] 1) := ⟨_, rfl⟩
 rw [← hY]
 obtain ⟨hf, ht0, hbY⟩ := first_start HB.out HRW.out HX.out HR1.out HC1.out _ hY
 have HFR : Hid (Y.heap[w1.heap.size]? = some (.cells #[.int .i64 K, .string S, .int .i64 U] 76 (0, 0))) := Lib.hid ht0
 obtain ⟨k0, k1, k2, -⟩ := row3 ht0
 have HF0 := Lib.hid hf
 have HO0 : Hid (OwnExP Y (fun b => w1.heap.size + 1 + 2 ≤ b) (w1.heap.size + 1 + 2) (.slice none 0 0) []) := Lib.hid (OwnExP.nil _ _ _)
 obtain ⟨q0, q1, q2⟩ := hf.cells
 obtain ⟨a0, a1, a2, a3, a4, z0, z1, z2, z3, z4⟩ := hf.rows
 obtain ⟨b0, b1, b2, b3, b4, f0, f1, f2, f3, f4⟩ := hf.ress
 clear hf ht0 hbY hY
 go_wp2_with fail
 refine (nameR_any HF0.out.rd HF0.out.size).mono ?_
 rintro e w2 hp
 cases hx : nameM L r with
 | bad p c =>
   have HM := Lib.hid (HM.out.trans (map_bad' hx))
   rw [hx] at hp
   obtain ⟨rfl, hc⟩ := hp
   have HC2 := Lib.hid (HF0.out.chg.up hc)
   clear hx hc
   unfold thrown
   go_wp2
   rw [HM.out]
   exact ⟨rfl, rfl, HC2.out⟩
 | ok x2 u2 =>
   have HM := Lib.hid (HM.out.trans (map_ok' hx))
   rw [hx] at hp
   obtain ⟨⟨v2, rfl, hv⟩, hr, hc⟩ := hp
   have HF2 := Lib.hid (HF0.out.step hr hc)
   have HO2 := Lib.hid (own_step (fun b hb e => by have := HF0.out.rlo; omega) HF0.out.rlo HO0.out hc)
   clear hx hr hc q0 q1 q2 a0 a1 a2 a3 a4 z0 z1 z2 z3 z4 b0 b1 b2 b3 b4 f0 f1 f2 f3 f4
   obtain ⟨q0, q1, q2⟩ := HF2.out.cells
   obtain ⟨a0, a1, a2, a3, a4, z0, z1, z2, z3, z4⟩ := HF2.out.rows
   obtain ⟨b0, b1, b2, b3, b4, f0, f1, f2, f3, f4⟩ := HF2.out.ress
   obtain ⟨rfl, hl⟩ := hv
   have HL := Lib.hid hl
   clear hl
   go_upto_region 34 with (fail)
   obtain ⟨Z, hZ⟩ : ∃ Z : World, Z = ((w2.setCell ⟨w1.heap.size + 1, 0, none⟩ (.int .i64 11)).setCell ⟨w1.heap.size + 1, 3, none⟩ (.string (strOf x2))) := ⟨_, rfl⟩
   rw [← hZ]
   have HFZ : Hid (FirstFr w B R L (w1.heap.size + 1) D 11 U 0 (strOf x2) Z (.slice none 0 0) _) := Lib.hid (by rw [hZ]; exact ((HF2.out.setK 11).setS (strOf x2)))
   have HOZ : Hid (OwnExP Z (fun b => w1.heap.size + 1 + 2 ≤ b) (w1.heap.size + 1 + 2) (.slice none 0 0) []) := Lib.hid (by rw [hZ]; exact (own_put (fun b hb => hb) (by omega) (own_put (fun b hb => hb) (by omega) HO2.out)))
   clear hZ a0 a1 a2 a3 a4 z0 z1 z2 z3 z4 b0 b1 b2 b3 b4 f0 f1 f2 f3 f4
   obtain ⟨a0, a1, a2, a3, a4, -⟩ := HFZ.out.rows
   obtain ⟨b0, b1, b2, b3, b4, f0, f1, f2, f3, f4⟩ := HFZ.out.ress
   go_wp2
   refine bodyPost_ret (v := .agg #[.int .i64 11, .int .i64 U, .int .i64 0, .string (strOf x2), (.slice none 0 0)]) ?_ rfl ?_
   · clear HFZ HOZ
     simp [results, Tryz.results125, go_sem, b0, b1, b2, b3, b4]
   · rw [HM.out]
     exact HFZ.out.done HOZ.out rfl HU.out rfl rfl (by have := HL.out; simp [Ex.name]; omega) rfl
set_option maxRecDepth 100000 in
set_option maxHeartbeats 4000000 in
theorem first_release {w : World} {B R L n : Nat} {t : Tok} {r : List Tok} (h : RdAt w B R L (t :: r)) (hB : B ≤ w.heap.size) (D : Int) (hD0 : 0 ≤ D) (hD1 : D ≤ 24)
  (hE : ∀ (w : World) (us : List Tok), RdAt w B R L us → B ≤ w.heap.size → Calls Tryz.prog 110 #[.pointer (some ⟨R, 0, none⟩), .int .i64 (D + 1)] w (RdPost (ExB w.heap.size) w B R L (exprM L n us))) (ht : t.text = [114, 101, 108, 101, 97, 115, 101])
  {T : Rd Ex} (hM : T = (nameM L r).map fun s => .mk 13 t.pl 0 s []) : Calls Tryz.prog 125 #[.pointer (some ⟨R, 0, none⟩), .int .i64 D] w (RdPost (ExB w.heap.size) w B R L T) := by
 have HHR := Lib.hid h
 obtain ⟨X, hX⟩ : ∃ X : World, X = ((w.alloc (.cells #[.pointer (some ⟨R, 0, none⟩)] 52)).alloc (.cells #[.int .i64 D] 3)).alloc (.cells #[.int .i64 0, .int .i64 0, .int .i64 0, .string ⟨#[]⟩, .slice none 0 0] 152) := ⟨_, rfl⟩
 have hbX : Below w.heap.size w X := by rw [hX]; exact ((below_new _ _).alloc (by simp) _).alloc (by simp; omega) _
 have hx0 : X.cell? ⟨w.heap.size, 0, none⟩ = some (.pointer (some ⟨R, 0, none⟩)) := by
  rw [hX]
  have h0 : (w.alloc (.cells #[.pointer (some ⟨R, 0, none⟩)] 52)).cell? ⟨w.heap.size, 0, none⟩ = some (.pointer (some ⟨R, 0, none⟩)) := by
   rw [cell_of_row _ _ 0 _ _ (0, 0) (heap_alloc_new w _)]; rfl
  exact alloc_cell (alloc_cell h0 _) _
 have HP := Lib.hid (pop_any (h.below' hB hbX) (Nat.le_trans hB hbX.size))
 obtain ⟨K, hK⟩ : ∃ K : Int, K = (t.kind : Nat) := ⟨_, rfl⟩
 obtain ⟨S, hS⟩ : ∃ S, S = strOf t.text := ⟨_, rfl⟩
 obtain ⟨U, hU⟩ : ∃ U : Int, U = (t.pl : Nat) := ⟨_, rfl⟩
 rw [← hK, ← hS, ← hU] at HP
 have HX := Lib.hid hX
 have HB := Lib.hid hB
 have HRW := Lib.hid (show R < w.heap.size by have := h.lt; omega)
 have HU := Lib.hid hU
 have HE := Lib.hid hE
 have HS := Lib.hid hS
 have HK := Lib.hid hK
 have hst : S.toList = [114, 101, 108, 101, 97, 115, 101] := by rw [hS, strOf_toList, ht]
 have HM := Lib.hid hM
 clear h hB hbX hU hX hE hS hK hM ht
 go_enter Tryz.func125, Tryz.ntmps125
 go_wp2_with fail
 rw [← HX.out]
 refine HP.out.mono ?_
 rintro e w1 ⟨rfl, hr, hc⟩
 have HR1 := Lib.hid hr
 have HC1 := Lib.hid hc
 clear hr hc hx0
 go_upto_region 5 with (fail)
 obtain ⟨Y, hY⟩ : ∃ Y : World, Y = ((w1.alloc (.cells #[.int .i64 K, .string S, .int .i64 U] 76)).alloc (.cells #[.int .i64 0, .int .i64 U, .int .i64 0, .string ⟨#[]⟩, .slice none 0 0] 152)).alloc
    (.cells #[.func (.func 132) #[] #[.pointer (some ⟨w1.heap.size + 1, 0, none⟩), .pointer (some ⟨w.heap.size, 0, none⟩), .pointer (some ⟨w.heap.size + 1, 0, none⟩)]] 1) := ⟨_, rfl⟩
 rw [← hY]
 obtain ⟨hf, ht0, hbY⟩ := first_start HB.out HRW.out HX.out HR1.out HC1.out _ hY
 have HFR : Hid (Y.heap[w1.heap.size]? = some (.cells #[.int .i64 K, .string S, .int .i64 U] 76 (0, 0))) := Lib.hid ht0
 obtain ⟨k0, k1, k2, -⟩ := row3 ht0
 have HF0 := Lib.hid hf
 have HO0 : Hid (OwnExP Y (fun b => w1.heap.size + 1 + 2 ≤ b) (w1.heap.size + 1 + 2) (.slice none 0 0) []) := Lib.hid (OwnExP.nil _ _ _)
 obtain ⟨q0, q1, q2⟩ := hf.cells
 obtain ⟨a0, a1, a2, a3, a4, z0, z1, z2, z3, z4⟩ := hf.rows
 obtain ⟨b0, b1, b2, b3, b4, f0, f1, f2, f3, f4⟩ := hf.ress
 clear hf ht0 hbY hY
 go_wp2_with fail
 refine (nameR_any HF0.out.rd HF0.out.size).mono ?_
 rintro e w2 hp
 cases hx : nameM L r with
 | bad p c =>
   have HM := Lib.hid (HM.out.trans (map_bad' hx))
   rw [hx] at hp
   obtain ⟨rfl, hc⟩ := hp
   have HC2 := Lib.hid (HF0.out.chg.up hc)
   clear hx hc
   unfold thrown
   go_wp2
   rw [HM.out]
   exact ⟨rfl, rfl, HC2.out⟩
 | ok x2 u2 =>
   have HM := Lib.hid (HM.out.trans (map_ok' hx))
   rw [hx] at hp
   obtain ⟨⟨v2, rfl, hv⟩, hr, hc⟩ := hp
   have HF2 := Lib.hid (HF0.out.step hr hc)
   have HO2 := Lib.hid (own_step (fun b hb e => by have := HF0.out.rlo; omega) HF0.out.rlo HO0.out hc)
   clear hx hr hc q0 q1 q2 a0 a1 a2 a3 a4 z0 z1 z2 z3 z4 b0 b1 b2 b3 b4 f0 f1 f2 f3 f4
   obtain ⟨q0, q1, q2⟩ := HF2.out.cells
   obtain ⟨a0, a1, a2, a3, a4, z0, z1, z2, z3, z4⟩ := HF2.out.rows
   obtain ⟨b0, b1, b2, b3, b4, f0, f1, f2, f3, f4⟩ := HF2.out.ress
   obtain ⟨rfl, hl⟩ := hv
   have HL := Lib.hid hl
   clear hl
   go_upto_region 34 with (fail)
   obtain ⟨Z, hZ⟩ : ∃ Z : World, Z = ((w2.setCell ⟨w1.heap.size + 1, 0, none⟩ (.int .i64 13)).setCell ⟨w1.heap.size + 1, 3, none⟩ (.string (strOf x2))) := ⟨_, rfl⟩
   rw [← hZ]
   have HFZ : Hid (FirstFr w B R L (w1.heap.size + 1) D 13 U 0 (strOf x2) Z (.slice none 0 0) _) := Lib.hid (by rw [hZ]; exact ((HF2.out.setK 13).setS (strOf x2)))
   have HOZ : Hid (OwnExP Z (fun b => w1.heap.size + 1 + 2 ≤ b) (w1.heap.size + 1 + 2) (.slice none 0 0) []) := Lib.hid (by rw [hZ]; exact (own_put (fun b hb => hb) (by omega) (own_put (fun b hb => hb) (by omega) HO2.out)))
   clear hZ a0 a1 a2 a3 a4 z0 z1 z2 z3 z4 b0 b1 b2 b3 b4 f0 f1 f2 f3 f4
   obtain ⟨a0, a1, a2, a3, a4, -⟩ := HFZ.out.rows
   obtain ⟨b0, b1, b2, b3, b4, f0, f1, f2, f3, f4⟩ := HFZ.out.ress
   go_wp2
   refine bodyPost_ret (v := .agg #[.int .i64 13, .int .i64 U, .int .i64 0, .string (strOf x2), (.slice none 0 0)]) ?_ rfl ?_
   · clear HFZ HOZ
     simp [results, Tryz.results125, go_sem, b0, b1, b2, b3, b4]
   · rw [HM.out]
     exact HFZ.out.done HOZ.out rfl HU.out rfl rfl (by have := HL.out; simp [Ex.name]; omega) rfl
set_option maxRecDepth 100000 in
set_option maxHeartbeats 4000000 in
theorem first_len {w : World} {B R L n : Nat} {t : Tok} {r : List Tok} (h : RdAt w B R L (t :: r)) (hB : B ≤ w.heap.size) (D : Int) (hD0 : 0 ≤ D) (hD1 : D ≤ 24)
  (hE : ∀ (w : World) (us : List Tok), RdAt w B R L us → B ≤ w.heap.size → Calls Tryz.prog 110 #[.pointer (some ⟨R, 0, none⟩), .int .i64 (D + 1)] w (RdPost (ExB w.heap.size) w B R L (exprM L n us))) (ht : t.text = [108, 101, 110])
  {T : Rd Ex} (hM : T = (brM L (exprM L n) r).map fun a => .mk 8 t.pl 0 [] [a]) : Calls Tryz.prog 125 #[.pointer (some ⟨R, 0, none⟩), .int .i64 D] w (RdPost (ExB w.heap.size) w B R L T) := by
 have HHR := Lib.hid h
 obtain ⟨X, hX⟩ : ∃ X : World, X = ((w.alloc (.cells #[.pointer (some ⟨R, 0, none⟩)] 52)).alloc (.cells #[.int .i64 D] 3)).alloc (.cells #[.int .i64 0, .int .i64 0, .int .i64 0, .string ⟨#[]⟩, .slice none 0 0] 152) := ⟨_, rfl⟩
 have hbX : Below w.heap.size w X := by rw [hX]; exact ((below_new _ _).alloc (by simp) _).alloc (by simp; omega) _
 have hx0 : X.cell? ⟨w.heap.size, 0, none⟩ = some (.pointer (some ⟨R, 0, none⟩)) := by
  rw [hX]
  have h0 : (w.alloc (.cells #[.pointer (some ⟨R, 0, none⟩)] 52)).cell? ⟨w.heap.size, 0, none⟩ = some (.pointer (some ⟨R, 0, none⟩)) := by
   rw [cell_of_row _ _ 0 _ _ (0, 0) (heap_alloc_new w _)]; rfl
  exact alloc_cell (alloc_cell h0 _) _
 have HP := Lib.hid (pop_any (h.below' hB hbX) (Nat.le_trans hB hbX.size))
 obtain ⟨K, hK⟩ : ∃ K : Int, K = (t.kind : Nat) := ⟨_, rfl⟩
 obtain ⟨S, hS⟩ : ∃ S, S = strOf t.text := ⟨_, rfl⟩
 obtain ⟨U, hU⟩ : ∃ U : Int, U = (t.pl : Nat) := ⟨_, rfl⟩
 rw [← hK, ← hS, ← hU] at HP
 have HX := Lib.hid hX
 have HB := Lib.hid hB
 have HRW := Lib.hid (show R < w.heap.size by have := h.lt; omega)
 have HU := Lib.hid hU
 have HE := Lib.hid hE
 have HS := Lib.hid hS
 have HK := Lib.hid hK
 have hst : S.toList = [108, 101, 110] := by rw [hS, strOf_toList, ht]
 have HM := Lib.hid hM
 clear h hB hbX hU hX hE hS hK hM ht
 go_enter Tryz.func125, Tryz.ntmps125
 go_wp2_with fail
 rw [← HX.out]
 refine HP.out.mono ?_
 rintro e w1 ⟨rfl, hr, hc⟩
 have HR1 := Lib.hid hr
 have HC1 := Lib.hid hc
 clear hr hc hx0
 go_upto_region 5 with (fail)
 obtain ⟨Y, hY⟩ : ∃ Y : World, Y = ((w1.alloc (.cells #[.int .i64 K, .string S, .int .i64 U] 76)).alloc (.cells #[.int .i64 0, .int .i64 U, .int .i64 0, .string ⟨#[]⟩, .slice none 0 0] 152)).alloc
    (.cells #[.func (.func 132) #[] #[.pointer (some ⟨w1.heap.size + 1, 0, none⟩), .pointer (some ⟨w.heap.size, 0, none⟩), .pointer (some ⟨w.heap.size + 1, 0, none⟩)]] 1) := ⟨_, rfl⟩
 rw [← hY]
 obtain ⟨hf, ht0, hbY⟩ := first_start HB.out HRW.out HX.out HR1.out HC1.out _ hY
 have HFR : Hid (Y.heap[w1.heap.size]? = some (.cells #[.int .i64 K, .string S, .int .i64 U] 76 (0, 0))) := Lib.hid ht0
 obtain ⟨k0, k1, k2, -⟩ := row3 ht0
 have HF0 := Lib.hid hf
 have HO0 : Hid (OwnExP Y (fun b => w1.heap.size + 1 + 2 ≤ b) (w1.heap.size + 1 + 2) (.slice none 0 0) []) := Lib.hid (OwnExP.nil _ _ _)
 obtain ⟨q0, q1, q2⟩ := hf.cells
 obtain ⟨a0, a1, a2, a3, a4, z0, z1, z2, z3, z4⟩ := hf.rows
 obtain ⟨b0, b1, b2, b3, b4, f0, f1, f2, f3, f4⟩ := hf.ress
 clear hf ht0 hbY hY
 go_wp2_with fail
 obtain ⟨w2, hW⟩ : ∃ Z : World, Z = (Y.setCell ⟨w1.heap.size + 1, 0, none⟩ (.int .i64 8)) := ⟨_, rfl⟩
 rw [← hW]
 have HF2 : Hid (FirstFr w B R L (w1.heap.size + 1) D 8 U 0 ⟨#[]⟩ w2 (.slice none 0 0) _) := Lib.hid (by rw [hW]; exact (HF0.out.setK 8))
 have HO2 : Hid (OwnExP w2 (fun b => w1.heap.size + 1 + 2 ≤ b) (w1.heap.size + 1 + 2) (.slice none 0 0) []) := Lib.hid (by rw [hW]; exact (own_put (fun b hb => hb) (by omega) HO0.out))
 clear hW q0 q1 q2 a0 a1 a2 a3 a4 z0 z1 z2 z3 z4 b0 b1 b2 b3 b4 f0 f1 f2 f3 f4
 obtain ⟨q0, q1, q2⟩ := HF2.out.cells
 obtain ⟨a0, a1, a2, a3, a4, z0, z1, z2, z3, z4⟩ := HF2.out.rows
 obtain ⟨b0, b1, b2, b3, b4, f0, f1, f2, f3, f4⟩ := HF2.out.ress
 refine (br_any HF2.out HO2.out (by simp) hD0 hD1 HE.out).mono ?_
 rintro e w3 hp
 cases hx : brM L (exprM L n) r with
 | bad p c =>
   have HM := Lib.hid (HM.out.trans (map_bad' hx))
   rw [hx] at hp
   obtain ⟨rfl, hc⟩ := hp
   have HC3 := Lib.hid hc
   clear hx hc
   unfold thrown
   go_wp2
   rw [HM.out]
   exact ⟨rfl, rfl, HC3.out⟩
 | ok x3 u3 =>
   have HM := Lib.hid (HM.out.trans (map_ok' hx))
   rw [hx] at hp
   obtain ⟨rfl, A, z, c, hf, ho⟩ := hp
   have HF3 := Lib.hid hf
   have HO3 := Lib.hid ho
   clear hx hf ho q0 q1 q2 a0 a1 a2 a3 a4 z0 z1 z2 z3 z4 b0 b1 b2 b3 b4 f0 f1 f2 f3 f4
   obtain ⟨q0, q1, q2⟩ := HF3.out.cells
   obtain ⟨a0, a1, a2, a3, a4, z0, z1, z2, z3, z4⟩ := HF3.out.rows
   obtain ⟨b0, b1, b2, b3, b4, f0, f1, f2, f3, f4⟩ := HF3.out.ress
   go_upto_region 34 with (fail)
   obtain ⟨Z, hZ⟩ : ∃ Z : World, Z = w3 := ⟨_, rfl⟩
   rw [← hZ]
   have HFZ : Hid (FirstFr w B R L (w1.heap.size + 1) D 8 U 0 ⟨#[]⟩ Z (.slice A z c) _) := Lib.hid (by rw [hZ]; exact HF3.out)
   have HOZ : Hid (OwnExP Z (fun b => w1.heap.size + 1 + 2 ≤ b) (w1.heap.size + 1 + 2) (.slice A z c) [x3]) := Lib.hid (by rw [hZ]; exact HO3.out)
   clear hZ a0 a1 a2 a3 a4 z0 z1 z2 z3 z4 b0 b1 b2 b3 b4 f0 f1 f2 f3 f4
   obtain ⟨a0, a1, a2, a3, a4, -⟩ := HFZ.out.rows
   obtain ⟨b0, b1, b2, b3, b4, f0, f1, f2, f3, f4⟩ := HFZ.out.ress
   go_wp2
   refine bodyPost_ret (v := .agg #[.int .i64 8, .int .i64 U, .int .i64 0, .string ⟨#[]⟩, (.slice A z c)]) ?_ rfl ?_
   · clear HFZ HOZ
     simp [results, Tryz.results125, go_sem, b0, b1, b2, b3, b4]
   · rw [HM.out]
     exact HFZ.out.done HOZ.out rfl HU.out rfl rfl (by simp [Ex.name]) rfl
set_option maxRecDepth 100000 in
set_option maxHeartbeats 4000000 in
theorem first_make {w : World} {B R L n : Nat} {t : Tok} {r : List Tok} (h : RdAt w B R L (t :: r)) (hB : B ≤ w.heap.size) (D : Int) (hD0 : 0 ≤ D) (hD1 : D ≤ 24)
  (hE : ∀ (w : World) (us : List Tok), RdAt w B R L us → B ≤ w.heap.size → Calls Tryz.prog 110 #[.pointer (some ⟨R, 0, none⟩), .int .i64 (D + 1)] w (RdPost (ExB w.heap.size) w B R L (exprM L n us))) (ht : t.text = [109, 97, 107, 101])
  {T : Rd Ex} (hM : T = (brM L (exprM L n) r).map fun a => .mk 12 t.pl 0 [] [a]) : Calls Tryz.prog 125 #[.pointer (some ⟨R, 0, none⟩), .int .i64 D] w (RdPost (ExB w.heap.size) w B R L T) := by
 have HHR := Lib.hid h
 obtain ⟨X, hX⟩ : ∃ X : World, X = ((w.alloc (.cells #[.pointer (some ⟨R, 0, none⟩)] 52)).alloc (.cells #[.int .i64 D] 3)).alloc (.cells #[.int .i64 0, .int .i64 0, .int .i64 0, .string ⟨#[]⟩, .slice none 0 0] 152) := ⟨_, rfl⟩
 have hbX : Below w.heap.size w X := by rw [hX]; exact ((below_new _ _).alloc (by simp) _).alloc (by simp; omega) _
 have hx0 : X.cell? ⟨w.heap.size, 0, none⟩ = some (.pointer (some ⟨R, 0, none⟩)) := by
  rw [hX]
  have h0 : (w.alloc (.cells #[.pointer (some ⟨R, 0, none⟩)] 52)).cell? ⟨w.heap.size, 0, none⟩ = some (.pointer (some ⟨R, 0, none⟩)) := by
   rw [cell_of_row _ _ 0 _ _ (0, 0) (heap_alloc_new w _)]; rfl
  exact alloc_cell (alloc_cell h0 _) _
 have HP := Lib.hid (pop_any (h.below' hB hbX) (Nat.le_trans hB hbX.size))
 obtain ⟨K, hK⟩ : ∃ K : Int, K = (t.kind : Nat) := ⟨_, rfl⟩
 obtain ⟨S, hS⟩ : ∃ S, S = strOf t.text := ⟨_, rfl⟩
 obtain ⟨U, hU⟩ : ∃ U : Int, U = (t.pl : Nat) := ⟨_, rfl⟩
 rw [← hK, ← hS, ← hU] at HP
 have HX := Lib.hid hX
 have HB := Lib.hid hB
 have HRW := Lib.hid (show R < w.heap.size by have := h.lt; omega)
 have HU := Lib.hid hU
 have HE := Lib.hid hE
 have HS := Lib.hid hS
 have HK := Lib.hid hK
 have hst : S.toList = [109, 97, 107, 101] := by rw [hS, strOf_toList, ht]
 have HM := Lib.hid hM
 clear h hB hbX hU hX hE hS hK hM ht
 go_enter Tryz.func125, Tryz.ntmps125
 go_wp2_with fail
 rw [← HX.out]
 refine HP.out.mono ?_
 rintro e w1 ⟨rfl, hr, hc⟩
 have HR1 := Lib.hid hr
 have HC1 := Lib.hid hc
 clear hr hc hx0
 go_upto_region 5 with (fail)
 obtain ⟨Y, hY⟩ : ∃ Y : World, Y = ((w1.alloc (.cells #[.int .i64 K, .string S, .int .i64 U] 76)).alloc (.cells #[.int .i64 0, .int .i64 U, .int .i64 0, .string ⟨#[]⟩, .slice none 0 0] 152)).alloc
    (.cells #[.func (.func 132) #[] #[.pointer (some ⟨w1.heap.size + 1, 0, none⟩), .pointer (some ⟨w.heap.size, 0, none⟩), .pointer (some ⟨w.heap.size + 1, 0, none⟩)]] 1) := ⟨_, rfl⟩
 rw [← hY]
 obtain ⟨hf, ht0, hbY⟩ := first_start HB.out HRW.out HX.out HR1.out HC1.out _ hY
 have HFR : Hid (Y.heap[w1.heap.size]? = some (.cells #[.int .i64 K, .string S, .int .i64 U] 76 (0, 0))) := Lib.hid ht0
 obtain ⟨k0, k1, k2, -⟩ := row3 ht0
 have HF0 := Lib.hid hf
 have HO0 : Hid (OwnExP Y (fun b => w1.heap.size + 1 + 2 ≤ b) (w1.heap.size + 1 + 2) (.slice none 0 0) []) := Lib.hid (OwnExP.nil _ _ _)
 obtain ⟨q0, q1, q2⟩ := hf.cells
 obtain ⟨a0, a1, a2, a3, a4, z0, z1, z2, z3, z4⟩ := hf.rows
 obtain ⟨b0, b1, b2, b3, b4, f0, f1, f2, f3, f4⟩ := hf.ress
 clear hf ht0 hbY hY
 go_wp2_with fail
 obtain ⟨w2, hW⟩ : ∃ Z : World, Z = (Y.setCell ⟨w1.heap.size + 1, 0, none⟩ (.int .i64 12)) := ⟨_, rfl⟩
 rw [← hW]
 have HF2 : Hid (FirstFr w B R L (w1.heap.size + 1) D 12 U 0 ⟨#[]⟩ w2 (.slice none 0 0) _) := Lib.hid (by rw [hW]; exact (HF0.out.setK 12))
 have HO2 : Hid (OwnExP w2 (fun b => w1.heap.size + 1 + 2 ≤ b) (w1.heap.size + 1 + 2) (.slice none 0 0) []) := Lib.hid (by rw [hW]; exact (own_put (fun b hb => hb) (by omega) HO0.out))
 clear hW q0 q1 q2 a0 a1 a2 a3 a4 z0 z1 z2 z3 z4 b0 b1 b2 b3 b4 f0 f1 f2 f3 f4
 obtain ⟨q0, q1, q2⟩ := HF2.out.cells
 obtain ⟨a0, a1, a2, a3, a4, z0, z1, z2, z3, z4⟩ := HF2.out.rows
 obtain ⟨b0, b1, b2, b3, b4, f0, f1, f2, f3, f4⟩ := HF2.out.ress
 refine (br_any HF2.out HO2.out (by simp) hD0 hD1 HE.out).mono ?_
 rintro e w3 hp
 cases hx : brM L (exprM L n) r with
 | bad p c =>
   have HM := Lib.hid (HM.out.trans (map_bad' hx))
   rw [hx] at hp
   obtain ⟨rfl, hc⟩ := hp
   have HC3 := Lib.hid hc
   clear hx hc
   unfold thrown
   go_wp2
   rw [HM.out]
   exact ⟨rfl, rfl, HC3.out⟩
 | ok x3 u3 =>
   have HM := Lib.hid (HM.out.trans (map_ok' hx))
   rw [hx] at hp
   obtain ⟨rfl, A, z, c, hf, ho⟩ := hp
   have HF3 := Lib.hid hf
   have HO3 := Lib.hid ho
   clear hx hf ho q0 q1 q2 a0 a1 a2 a3 a4 z0 z1 z2 z3 z4 b0 b1 b2 b3 b4 f0 f1 f2 f3 f4
   obtain ⟨q0, q1, q2⟩ := HF3.out.cells
   obtain ⟨a0, a1, a2, a3, a4, z0, z1, z2, z3, z4⟩ := HF3.out.rows
   obtain ⟨b0, b1, b2, b3, b4, f0, f1, f2, f3, f4⟩ := HF3.out.ress
   go_upto_region 34 with (fail)
   obtain ⟨Z, hZ⟩ : ∃ Z : World, Z = w3 := ⟨_, rfl⟩
   rw [← hZ]
   have HFZ : Hid (FirstFr w B R L (w1.heap.size + 1) D 12 U 0 ⟨#[]⟩ Z (.slice A z c) _) := Lib.hid (by rw [hZ]; exact HF3.out)
   have HOZ : Hid (OwnExP Z (fun b => w1.heap.size + 1 + 2 ≤ b) (w1.heap.size + 1 + 2) (.slice A z c) [x3]) := Lib.hid (by rw [hZ]; exact HO3.out)
   clear hZ a0 a1 a2 a3 a4 z0 z1 z2 z3 z4 b0 b1 b2 b3 b4 f0 f1 f2 f3 f4
   obtain ⟨a0, a1, a2, a3, a4, -⟩ := HFZ.out.rows
   obtain ⟨b0, b1, b2, b3, b4, f0, f1, f2, f3, f4⟩ := HFZ.out.ress
   go_wp2
   refine bodyPost_ret (v := .agg #[.int .i64 12, .int .i64 U, .int .i64 0, .string ⟨#[]⟩, (.slice A z c)]) ?_ rfl ?_
   · clear HFZ HOZ
     simp [results, Tryz.results125, go_sem, b0, b1, b2, b3, b4]
   · rw [HM.out]
     exact HFZ.out.done HOZ.out rfl HU.out rfl rfl (by simp [Ex.name]) rfl
end Go.Proofs.YtbckeljbpknbdaaGreatDoor
