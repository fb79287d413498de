/- Fg -/
import Derived.Test.YtkmpnlbppdekaaaDoorZb8
import Derived.Deep.Cut
import Derived.StillTailTactics
import Derived.IntWalk
set_option linter.unusedVariables false
set_option linter.unusedSimpArgs false
namespace Go.Proofs.YtkmpnlbppdekaaaDoor
open Go.RowKit
set_option maxRecDepth 100000 in
set_option maxHeartbeats 4000000 in
theorem first_true {w : World} {B R L n : Nat} {t : Tok} {r : List Tok} (h : RdAt w B R L (t :: r)) (hB : B ≤ w.heap.size) (D : Int) (hD0 : 0 ≤ D) (hD1 : D ≤ 24)
    (hE : ∀ (w : World) (us : List Tok), RdAt w B R L us → B ≤ w.heap.size → Calls Tryd.prog 16 #[.pointer (some ⟨R, 0, none⟩), .int .i64 (D + 1)] w (RdPost (ExB w.heap.size) w B R L (exprM L n us))) (ht : t.text = [116, 114, 117, 101])
    {T : Rd Ex} (hM : T = .ok (.mk 2 t.pl 1 [] []) r) : Calls Tryd.prog 28 #[.pointer (some ⟨R, 0, none⟩), .int .i64 D] w (RdPost (ExB w.heap.size) w B R L T) := by
  have HHR := Lib.hid h
  obtain ⟨X, hX⟩ : ∃ X : World, X = ((w.alloc (.cells #[.pointer (some ⟨R, 0, none⟩)] 45)).alloc (.cells #[.int .i64 D] 3)).alloc (.cells #[.int .i64 0, .int .i64 0, .int .i64 0, .string ⟨#[]⟩, .slice none 0 0] 32) := ⟨_, rfl⟩
  have hbX : Below w.heap.size w X := by rw [hX]; exact ((below_new _ _).alloc (by simp) _).alloc (by simp; omega) _
  have hx0 : X.cell? ⟨w.heap.size, 0, none⟩ = some (.pointer (some ⟨R, 0, none⟩)) := by
    rw [hX]
    have h0 : (w.alloc (.cells #[.pointer (some ⟨R, 0, none⟩)] 45)).cell? ⟨w.heap.size, 0, none⟩ = some (.pointer (some ⟨R, 0, none⟩)) := by
      rw [cell_of_row _ _ 0 _ _ (0, 0) (heap_alloc_new w _)]; rfl
    exact alloc_cell (alloc_cell h0 _) _
  have HP := Lib.hid (pop_any (h.below' hB hbX) (Nat.le_trans hB hbX.size))
  obtain ⟨K, hK⟩ : ∃ K : Int, K = (t.kind : Nat) := ⟨_, rfl⟩
  obtain ⟨S, hS⟩ : ∃ S, S = strOf t.text := ⟨_, rfl⟩
  obtain ⟨U, hU⟩ : ∃ U : Int, U = (t.pl : Nat) := ⟨_, rfl⟩
  rw [← hK, ← hS, ← hU] at HP
  have HX := Lib.hid hX
  have HB := Lib.hid hB
  have HRW := Lib.hid (show R < w.heap.size by have := h.lt; omega)
  have HU := Lib.hid hU
  have HE := Lib.hid hE
  have HS := Lib.hid hS
  have HK := Lib.hid hK
  have hst : S.toList = [116, 114, 117, 101] := by rw [hS, strOf_toList, ht]
  have HM := Lib.hid hM
  clear h hB hbX hU hX hE hS hK hM ht
  go_enter Tryd.func28, Tryd.ntmps28
  go_wp2_with fail
  rw [← HX.out]
  refine HP.out.mono ?_
  rintro e w1 ⟨rfl, hr, hc⟩
  have HR1 := Lib.hid hr
  have HC1 := Lib.hid hc
  clear hr hc hx0
  go_upto_region 5 with (fail)
  obtain ⟨Y, hY⟩ : ∃ Y : World, Y = ((w1.alloc (.cells #[.int .i64 K, .string S, .int .i64 U] 51)).alloc (.cells #[.int .i64 0, .int .i64 U, .int .i64 0, .string ⟨#[]⟩, .slice none 0 0] 32)).alloc
        (.cells #[.func (.func 45) #[] #[.pointer (some ⟨w1.heap.size + 1, 0, none⟩), .pointer (some ⟨w.heap.size, 0, none⟩), .pointer (some ⟨w.heap.size + 1, 0, none⟩)]] 1) := ⟨_, rfl⟩
  rw [← hY]
  obtain ⟨hf, ht0, hbY⟩ := first_start HB.out HRW.out HX.out HR1.out HC1.out _ hY
  have HFR : Hid (Y.heap[w1.heap.size]? = some (.cells #[.int .i64 K, .string S, .int .i64 U] 51 (0, 0))) := Lib.hid ht0
  obtain ⟨k0, k1, k2, -⟩ := row3 ht0
  have HF0 := Lib.hid hf
  have HO0 : Hid (OwnExP Y (fun b => w1.heap.size + 1 + 2 ≤ b) (w1.heap.size + 1 + 2) (.slice none 0 0) []) := Lib.hid (OwnExP.nil _ _ _)
  obtain ⟨q0, q1, q2⟩ := hf.cells
  obtain ⟨a0, a1, a2, a3, a4, z0, z1, z2, z3, z4⟩ := hf.rows
  obtain ⟨b0, b1, b2, b3, b4, f0, f1, f2, f3, f4⟩ := hf.ress
  clear hf ht0 hbY hY
  go_upto_region 34 with (fail)
  obtain ⟨Z, hZ⟩ : ∃ Z : World, Z = ((Y.setCell ⟨w1.heap.size + 1, 0, none⟩ (.int .i64 2)).setCell ⟨w1.heap.size + 1, 2, none⟩ (.int .i64 1)) := ⟨_, rfl⟩
  rw [← hZ]
  have HFZ : Hid (FirstFr w B R L (w1.heap.size + 1) D 2 U 1 ⟨#[]⟩ Z (.slice none 0 0) _) := Lib.hid (by rw [hZ]; exact ((HF0.out.setK 2).setM 1))
  have HOZ : Hid (OwnExP Z (fun b => w1.heap.size + 1 + 2 ≤ b) (w1.heap.size + 1 + 2) (.slice none 0 0) []) := Lib.hid (by rw [hZ]; exact (own_put (fun b hb => hb) (by omega) (own_put (fun b hb => hb) (by omega) HO0.out)))
  clear hZ a0 a1 a2 a3 a4 z0 z1 z2 z3 z4 b0 b1 b2 b3 b4 f0 f1 f2 f3 f4
  obtain ⟨a0, a1, a2, a3, a4, -⟩ := HFZ.out.rows
  obtain ⟨b0, b1, b2, b3, b4, f0, f1, f2, f3, f4⟩ := HFZ.out.ress
  go_wp2
  refine bodyPost_ret (v := .agg #[.int .i64 2, .int .i64 U, .int .i64 1, .string ⟨#[]⟩, (.slice none 0 0)]) ?_ rfl ?_
  · clear HFZ HOZ
    simp [results, Tryd.results28, go_sem, b0, b1, b2, b3, b4]
  · rw [HM.out]
    exact HFZ.out.done HOZ.out rfl HU.out rfl rfl (by simp [Ex.name]) rfl
set_option maxRecDepth 100000 in
set_option maxHeartbeats 4000000 in
theorem first_false {w : World} {B R L n : Nat} {t : Tok} {r : List Tok} (h : RdAt w B R L (t :: r)) (hB : B ≤ w.heap.size) (D : Int) (hD0 : 0 ≤ D) (hD1 : D ≤ 24)
    (hE : ∀ (w : World) (us : List Tok), RdAt w B R L us → B ≤ w.heap.size → Calls Tryd.prog 16 #[.pointer (some ⟨R, 0, none⟩), .int .i64 (D + 1)] w (RdPost (ExB w.heap.size) w B R L (exprM L n us))) (ht : t.text = [102, 97, 108, 115, 101])
    {T : Rd Ex} (hM : T = .ok (.mk 2 t.pl 0 [] []) r) : Calls Tryd.prog 28 #[.pointer (some ⟨R, 0, none⟩), .int .i64 D] w (RdPost (ExB w.heap.size) w B R L T) := by
  have HHR := Lib.hid h
  obtain ⟨X, hX⟩ : ∃ X : World, X = ((w.alloc (.cells #[.pointer (some ⟨R, 0, none⟩)] 45)).alloc (.cells #[.int .i64 D] 3)).alloc (.cells #[.int .i64 0, .int .i64 0, .int .i64 0, .string ⟨#[]⟩, .slice none 0 0] 32) := ⟨_, rfl⟩
  have hbX : Below w.heap.size w X := by rw [hX]; exact ((below_new _ _).alloc (by simp) _).alloc (by simp; omega) _
  have hx0 : X.cell? ⟨w.heap.size, 0, none⟩ = some (.pointer (some ⟨R, 0, none⟩)) := by
    rw [hX]
    have h0 : (w.alloc (.cells #[.pointer (some ⟨R, 0, none⟩)] 45)).cell? ⟨w.heap.size, 0, none⟩ = some (.pointer (some ⟨R, 0, none⟩)) := by
      rw [cell_of_row _ _ 0 _ _ (0, 0) (heap_alloc_new w _)]; rfl
    exact alloc_cell (alloc_cell h0 _) _
  have HP := Lib.hid (pop_any (h.below' hB hbX) (Nat.le_trans hB hbX.size))
  obtain ⟨K, hK⟩ : ∃ K : Int, K = (t.kind : Nat) := ⟨_, rfl⟩
  obtain ⟨S, hS⟩ : ∃ S, S = strOf t.text := ⟨_, rfl⟩
  obtain ⟨U, hU⟩ : ∃ U : Int, U = (t.pl : Nat) := ⟨_, rfl⟩
  rw [← hK, ← hS, ← hU] at HP
  have HX := Lib.hid hX
  have HB := Lib.hid hB
  have HRW := Lib.hid (show R < w.heap.size by have := h.lt; omega)
  have HU := Lib.hid hU
  have HE := Lib.hid hE
  have HS := Lib.hid hS
  have HK := Lib.hid hK
  have hst : S.toList = [102, 97, 108, 115, 101] := by rw [hS, strOf_toList, ht]
  have HM := Lib.hid hM
  clear h hB hbX hU hX hE hS hK hM ht
  go_enter Tryd.func28, Tryd.ntmps28
  go_wp2_with fail
  rw [← HX.out]
  refine HP.out.mono ?_
  rintro e w1 ⟨rfl, hr, hc⟩
  have HR1 := Lib.hid hr
  have HC1 := Lib.hid hc
  clear hr hc hx0
  go_upto_region 5 with (fail)
  obtain ⟨Y, hY⟩ : ∃ Y : World, Y = ((w1.alloc (.cells #[.int .i64 K, .string S, .int .i64 U] 51)).alloc (.cells #[.int .i64 0, .int .i64 U, .int .i64 0, .string ⟨#[]⟩, .slice none 0 0] 32)).alloc
        (.cells #[.func (.func 45) #[] #[.pointer (some ⟨w1.heap.size + 1, 0, none⟩), .pointer (some ⟨w.heap.size, 0, none⟩), .pointer (some ⟨w.heap.size + 1, 0, none⟩)]] 1) := ⟨_, rfl⟩
  rw [← hY]
  obtain ⟨hf, ht0, hbY⟩ := first_start HB.out HRW.out HX.out HR1.out HC1.out _ hY
  have HFR : Hid (Y.heap[w1.heap.size]? = some (.cells #[.int .i64 K, .string S, .int .i64 U] 51 (0, 0))) := Lib.hid ht0
  obtain ⟨k0, k1, k2, -⟩ := row3 ht0
  have HF0 := Lib.hid hf
  have HO0 : Hid (OwnExP Y (fun b => w1.heap.size + 1 + 2 ≤ b) (w1.heap.size + 1 + 2) (.slice none 0 0) []) := Lib.hid (OwnExP.nil _ _ _)
  obtain ⟨q0, q1, q2⟩ := hf.cells
  obtain ⟨a0, a1, a2, a3, a4, z0, z1, z2, z3, z4⟩ := hf.rows
  obtain ⟨b0, b1, b2, b3, b4, f0, f1, f2, f3, f4⟩ := hf.ress
  clear hf ht0 hbY hY
  go_upto_region 34 with (fail)
  obtain ⟨Z, hZ⟩ : ∃ Z : World, Z = (Y.setCell ⟨w1.heap.size + 1, 0, none⟩ (.int .i64 2)) := ⟨_, rfl⟩
  rw [← hZ]
  have HFZ : Hid (FirstFr w B R L (w1.heap.size + 1) D 2 U 0 ⟨#[]⟩ Z (.slice none 0 0) _) := Lib.hid (by rw [hZ]; exact (HF0.out.setK 2))
  have HOZ : Hid (OwnExP Z (fun b => w1.heap.size + 1 + 2 ≤ b) (w1.heap.size + 1 + 2) (.slice none 0 0) []) := Lib.hid (by rw [hZ]; exact (own_put (fun b hb => hb) (by omega) HO0.out))
  clear hZ a0 a1 a2 a3 a4 z0 z1 z2 z3 z4 b0 b1 b2 b3 b4 f0 f1 f2 f3 f4
  obtain ⟨a0, a1, a2, a3, a4, -⟩ := HFZ.out.rows
  obtain ⟨b0, b1, b2, b3, b4, f0, f1, f2, f3, f4⟩ := HFZ.out.ress
  go_wp2
  refine bodyPost_ret (v := .agg #[.int .i64 2, .int .i64 U, .int .i64 0, .string ⟨#[]⟩, (.slice none 0 0)]) ?_ rfl ?_
  · clear HFZ HOZ
    simp [results, Tryd.results28, go_sem, b0, b1, b2, b3, b4]
  · rw [HM.out]
    exact HFZ.out.done HOZ.out rfl HU.out rfl rfl (by simp [Ex.name]) rfl
set_option maxRecDepth 100000 in
set_option maxHeartbeats 4000000 in
theorem first_nil {w : World} {B R L n : Nat} {t : Tok} {r : List Tok} (h : RdAt w B R L (t :: r)) (hB : B ≤ w.heap.size) (D : Int) (hD0 : 0 ≤ D) (hD1 : D ≤ 24)
    (hE : ∀ (w : World) (us : List Tok), RdAt w B R L us → B ≤ w.heap.size → Calls Tryd.prog 16 #[.pointer (some ⟨R, 0, none⟩), .int .i64 (D + 1)] w (RdPost (ExB w.heap.size) w B R L (exprM L n us))) (ht : t.text = [110, 105, 108])
    {T : Rd Ex} (hM : T = .ok (.mk 3 t.pl 0 [] []) r) : Calls Tryd.prog 28 #[.pointer (some ⟨R, 0, none⟩), .int .i64 D] w (RdPost (ExB w.heap.size) w B R L T) := by
  have HHR := Lib.hid h
  obtain ⟨X, hX⟩ : ∃ X : World, X = ((w.alloc (.cells #[.pointer (some ⟨R, 0, none⟩)] 45)).alloc (.cells #[.int .i64 D] 3)).alloc (.cells #[.int .i64 0, .int .i64 0, .int .i64 0, .string ⟨#[]⟩, .slice none 0 0] 32) := ⟨_, rfl⟩
  have hbX : Below w.heap.size w X := by rw [hX]; exact ((below_new _ _).alloc (by simp) _).alloc (by simp; omega) _
  have hx0 : X.cell? ⟨w.heap.size, 0, none⟩ = some (.pointer (some ⟨R, 0, none⟩)) := by
    rw [hX]
    have h0 : (w.alloc (.cells #[.pointer (some ⟨R, 0, none⟩)] 45)).cell? ⟨w.heap.size, 0, none⟩ = some (.pointer (some ⟨R, 0, none⟩)) := by
      rw [cell_of_row _ _ 0 _ _ (0, 0) (heap_alloc_new w _)]; rfl
    exact alloc_cell (alloc_cell h0 _) _
  have HP := Lib.hid (pop_any (h.below' hB hbX) (Nat.le_trans hB hbX.size))
  obtain ⟨K, hK⟩ : ∃ K : Int, K = (t.kind : Nat) := ⟨_, rfl⟩
  obtain ⟨S, hS⟩ : ∃ S, S = strOf t.text := ⟨_, rfl⟩
  obtain ⟨U, hU⟩ : ∃ U : Int, U = (t.pl : Nat) := ⟨_, rfl⟩
  rw [← hK, ← hS, ← hU] at HP
  have HX := Lib.hid hX
  have HB := Lib.hid hB
  have HRW := Lib.hid (show R < w.heap.size by have := h.lt; omega)
  have HU := Lib.hid hU
  have HE := Lib.hid hE
  have HS := Lib.hid hS
  have HK := Lib.hid hK
  have hst : S.toList = [110, 105, 108] := by rw [hS, strOf_toList, ht]
  have HM := Lib.hid hM
  clear h hB hbX hU hX hE hS hK hM ht
  go_enter Tryd.func28, Tryd.ntmps28
  go_wp2_with fail
  rw [← HX.out]
  refine HP.out.mono ?_
  rintro e w1 ⟨rfl, hr, hc⟩
  have HR1 := Lib.hid hr
  have HC1 := Lib.hid hc
  clear hr hc hx0
  go_upto_region 5 with (fail)
  obtain ⟨Y, hY⟩ : ∃ Y : World, Y = ((w1.alloc (.cells #[.int .i64 K, .string S, .int .i64 U] 51)).alloc (.cells #[.int .i64 0, .int .i64 U, .int .i64 0, .string ⟨#[]⟩, .slice none 0 0] 32)).alloc
        (.cells #[.func (.func 45) #[] #[.pointer (some ⟨w1.heap.size + 1, 0, none⟩), .pointer (some ⟨w.heap.size, 0, none⟩), .pointer (some ⟨w.heap.size + 1, 0, none⟩)]] 1) := ⟨_, rfl⟩
  rw [← hY]
  obtain ⟨hf, ht0, hbY⟩ := first_start HB.out HRW.out HX.out HR1.out HC1.out _ hY
  have HFR : Hid (Y.heap[w1.heap.size]? = some (.cells #[.int .i64 K, .string S, .int .i64 U] 51 (0, 0))) := Lib.hid ht0
  obtain ⟨k0, k1, k2, -⟩ := row3 ht0
  have HF0 := Lib.hid hf
  have HO0 : Hid (OwnExP Y (fun b => w1.heap.size + 1 + 2 ≤ b) (w1.heap.size + 1 + 2) (.slice none 0 0) []) := Lib.hid (OwnExP.nil _ _ _)
  obtain ⟨q0, q1, q2⟩ := hf.cells
  obtain ⟨a0, a1, a2, a3, a4, z0, z1, z2, z3, z4⟩ := hf.rows
  obtain ⟨b0, b1, b2, b3, b4, f0, f1, f2, f3, f4⟩ := hf.ress
  clear hf ht0 hbY hY
  go_upto_region 34 with (fail)
  obtain ⟨Z, hZ⟩ : ∃ Z : World, Z = (Y.setCell ⟨w1.heap.size + 1, 0, none⟩ (.int .i64 3)) := ⟨_, rfl⟩
  rw [← hZ]
  have HFZ : Hid (FirstFr w B R L (w1.heap.size + 1) D 3 U 0 ⟨#[]⟩ Z (.slice none 0 0) _) := Lib.hid (by rw [hZ]; exact (HF0.out.setK 3))
  have HOZ : Hid (OwnExP Z (fun b => w1.heap.size + 1 + 2 ≤ b) (w1.heap.size + 1 + 2) (.slice none 0 0) []) := Lib.hid (by rw [hZ]; exact (own_put (fun b hb => hb) (by omega) HO0.out))
  clear hZ a0 a1 a2 a3 a4 z0 z1 z2 z3 z4 b0 b1 b2 b3 b4 f0 f1 f2 f3 f4
  obtain ⟨a0, a1, a2, a3, a4, -⟩ := HFZ.out.rows
  obtain ⟨b0, b1, b2, b3, b4, f0, f1, f2, f3, f4⟩ := HFZ.out.ress
  go_wp2
  refine bodyPost_ret (v := .agg #[.int .i64 3, .int .i64 U, .int .i64 0, .string ⟨#[]⟩, (.slice none 0 0)]) ?_ rfl ?_
  · clear HFZ HOZ
    simp [results, Tryd.results28, go_sem, b0, b1, b2, b3, b4]
  · rw [HM.out]
    exact HFZ.out.done HOZ.out rfl HU.out rfl rfl (by simp [Ex.name]) rfl
end Go.Proofs.YtkmpnlbppdekaaaDoor
