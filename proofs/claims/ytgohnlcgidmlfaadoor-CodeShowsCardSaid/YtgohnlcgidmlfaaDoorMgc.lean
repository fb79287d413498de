/- The document's own rule for an operation: its walk. -/
import Derived.Test.YtgohnlcgidmlfaaDoorMgb
import Derived.Test.YtgohnlcgidmlfaaDoorMeq
import Derived.Deep.Cut
import Derived.Deep.CutRange
import Derived.Deep.CutBlock
import Derived.Test.YtgohnlcgidmlfaaDoorDn
import Derived.Deep.QuietTactic
import Derived.BigQuiet
set_option linter.unusedVariables false
set_option linter.unusedSimpArgs false
set_option maxRecDepth 100000
namespace Go.Proofs.YtgohnlcgidmlfaaDoor
open Go.RowKit

theorem opB_none {m : Mo} {F : Fn} {n : Int} {O : Opx} (h : ¬ (1 ≤ O.kind ∧ O.kind ≤ 23)) : opB m F n O = false := by
  cases hb : opB m F n O with
  | false => rfl
  | true => exact absurd (opB_kind hb) h
theorem opB_fok {m : Mo} {F : Fn} {n : Int} {O : Opx} (h : 1 ≤ O.kind ∧ O.kind ≤ 23) {j : Nat} (hj : j < 7) (hf : fokAt m F n O j = false) : opB m F n O = false := by
  have h1 : allOk m F n O = false := by
    unfold allOk
    rw [List.all_eq_false]
    exact ⟨j, List.mem_range.2 hj, by rw [hf]; simp⟩
  unfold opB
  rw [fields_ref h, h1]
  simp
theorem bs_get {us : List UInt8} {S : ByteArray} (h : S = bs us) {j : Nat} (h1 : j < S.size) (h2 : j < us.length) : S[j].toNat = us[j].toNat := by subst h; rfl
theorem below_drewN {B : Nat} {w w' : World} (h : Below B w w') (n : Nat) : Below B w (w'.drewN n) := h.trans (Drawn.below ⟨n, rfl⟩)
def seven (O : Opx) : Array Value := #[.int .i64 O.a, .int .i64 O.b, .int .i64 O.c, .int .i64 O.d, .int .i64 O.e, .int .i64 O.f, .int .i64 O.k]
theorem seven_at (O : Opx) (j : Nat) (hj : j < 7) : (seven O)[j]? = some (.int .i64 ((fl O)[j]?.getD 0)) := by
  have : j = 0 ∨ j = 1 ∨ j = 2 ∨ j = 3 ∨ j = 4 ∨ j = 5 ∨ j = 6 := by omega
  rcases this with rfl | rfl | rfl | rfl | rfl | rfl | rfl <;> rfl

set_option maxHeartbeats 16000000 in
theorem refop_any {w : World} {m : Mo} {v : Vm} {F : Fn} {cv : Value} {O : Opx} {va : Value} (h : IsMo w (· < w.heap.size) m v) (hcode : Lies KO w (· < w.heap.size) F.code cv) (hargs : Lies KI w (· < w.heap.size) O.args va) (hF : F.In) (hO : O.In) (hp : partsM m = true) (hfs : m.funcs.all fnB = true) (hFB : fnB F = true) :
    Calls Tryd.prog 31 #[.agg v.arr, .agg (fnRow F cv).toArray, .agg (opRow O va).toArray] w fun e w' => e = .returned (.bool (opB m F (sumS m.globals) O)) ∧ Below w.heap.size w w' := by
  obtain ⟨A0, c0, e0, hc0, hM0⟩ := h.g.form
  obtain ⟨n0, hn0⟩ : ∃ n, n = m.globals.length := ⟨_, rfl⟩
  rw [← hn0] at e0 hc0 hM0
  obtain ⟨A1, c1, e1, hc1, hM1⟩ := h.s.form
  obtain ⟨n1, hn1⟩ : ∃ n, n = m.structs.length := ⟨_, rfl⟩
  rw [← hn1] at e1 hc1 hM1
  obtain ⟨A2, c2, e2, hc2, hM2⟩ := h.c.form
  obtain ⟨n2, hn2c⟩ : ∃ n, n = m.chans.length := ⟨_, rfl⟩
  rw [← hn2c] at e2 hc2 hM2
  obtain ⟨A3, c3, e3, hc3, hM3⟩ := h.l.form
  obtain ⟨n3, hn3⟩ : ∃ n, n = m.locks.length := ⟨_, rfl⟩
  rw [← hn3] at e3 hc3 hM3
  obtain ⟨A4, c4, e4, hc4, hM4⟩ := h.i.form
  obtain ⟨n4, hn4⟩ : ∃ n, n = m.inputs.length := ⟨_, rfl⟩
  rw [← hn4] at e4 hc4 hM4
  obtain ⟨A5, c5, e5, hc5, hM5⟩ := h.o.form
  obtain ⟨n5, hn5⟩ : ∃ n, n = m.sinks.length := ⟨_, rfl⟩
  rw [← hn5] at e5 hc5 hM5
  obtain ⟨A6, c6, e6, hc6, hM6⟩ := h.h.form
  obtain ⟨n6, hn6⟩ : ∃ n, n = m.hatches.length := ⟨_, rfl⟩
  rw [← hn6] at e6 hc6 hM6
  obtain ⟨A7, c7, e7, hc7, hM7⟩ := h.f.form
  obtain ⟨n7, hn7⟩ : ∃ n, n = m.funcs.length := ⟨_, rfl⟩
  rw [← hn7] at e7 hc7 hM7
  obtain ⟨A8, c8, e8, hc8, hM8⟩ := h.t.form
  obtain ⟨n8, hn8⟩ : ∃ n, n = m.threads.length := ⟨_, rfl⟩
  rw [← hn8] at e8 hc8 hM8
  obtain ⟨A9, c9, rfl, hc9, hM9⟩ := hcode.form
  obtain ⟨n9, hn9⟩ : ∃ n, n = F.code.length := ⟨_, rfl⟩
  obtain ⟨A10, c10, rfl, hc10, hM10⟩ := hargs.form
  obtain ⟨n10, hn10⟩ : ∃ n, n = O.args.length := ⟨_, rfl⟩
  rw [← hn9] at hcode hc9 hM9 ⊢
  rw [← hn10] at hargs hc10 hM10 ⊢
  have hvv : v = ⟨.slice A0 n0 c0, .slice A1 n1 c1, .slice A2 n2 c2, .slice A3 n3 c3, .slice A4 n4 c4, .slice A5 n5 c5, .slice A6 n6 c6, .slice A7 n7 c7, .slice A8 n8 c8⟩ := by cases v; dsimp only at e0 e1 e2 e3 e4 e5 e6 e7 e8; rw [e0, e1, e2, e3, e4, e5, e6, e7, e8]
  have harr : v.arr = #[.slice A0 n0 c0, .slice A1 n1 c1, .slice A2 n2 c2, .slice A3 n3 c3, .slice A4 n4 c4, .slice A5 n5 c5, .slice A6 n6 c6, .slice A7 n7 c7, .slice A8 n8 c8] := by rw [hvv]; rfl
  rw [harr, fnRow_arr, opRow_arr]
  obtain ⟨n, hn⟩ : ∃ n, n = sumS m.globals := ⟨_, rfl⟩
  have hW : ∀ wx, Below w.heap.size w wx → Calls Tryd.prog 33 #[.agg #[.slice A0 n0 c0, .slice A1 n1 c1, .slice A2 n2 c2, .slice A3 n3 c3, .slice A4 n4 c4, .slice A5 n5 c5, .slice A6 n6 c6, .slice A7 n7 c7, .slice A8 n8 c8]] wx fun e w' => e = .returned (.int .i64 n) ∧ Below wx.heap.size wx w' := fun wx hb => by
    have := rwords_any (h.grow hb) (partsM_globals hp).1 (partsM_globals hp).2
    rw [harr, ← hn] at this
    exact this
  have hn2 : 0 ≤ n ∧ n ≤ 32 := by
    have h1 := sumS_bound _ (partsM_globals hp).1
    have h2 := (partsM_globals hp).2
    omega
  rw [← hn]
  obtain ⟨X, hX⟩ : ∃ X : World, X = ((w.alloc (.cells #[.slice A0 n0 c0, .slice A1 n1 c1, .slice A2 n2 c2, .slice A3 n3 c3, .slice A4 n4 c4, .slice A5 n5 c5, .slice A6 n6 c6, .slice A7 n7 c7, .slice A8 n8 c8] 27)).alloc (.cells #[.string (bs F.name), .int .i64 F.params, .int .i64 F.regs, .int .i64 F.result, .slice A9 n9 c9] 39)).alloc (.cells #[.int .i64 O.kind, .int .i64 O.a, .int .i64 O.b, .int .i64 O.c, .int .i64 O.d, .int .i64 O.e, .int .i64 O.f, .int .i64 O.k, .slice A10 n10 c10, .int .i64 O.next, .int .i64 O.els, .int .i64 O.pl] 42) := ⟨_, rfl⟩
  obtain ⟨G, hG⟩ : ∃ G, G = w.heap.size := ⟨_, rfl⟩
  have s1 := asz w (.cells #[.slice A0 n0 c0, .slice A1 n1 c1, .slice A2 n2 c2, .slice A3 n3 c3, .slice A4 n4 c4, .slice A5 n5 c5, .slice A6 n6 c6, .slice A7 n7 c7, .slice A8 n8 c8] 27)
  have s2 := asz (w.alloc (.cells #[.slice A0 n0 c0, .slice A1 n1 c1, .slice A2 n2 c2, .slice A3 n3 c3, .slice A4 n4 c4, .slice A5 n5 c5, .slice A6 n6 c6, .slice A7 n7 c7, .slice A8 n8 c8] 27)) (.cells #[.string (bs F.name), .int .i64 F.params, .int .i64 F.regs, .int .i64 F.result, .slice A9 n9 c9] 39)
  have hxs : X.heap.size = G + 3 := by rw [hX, asz, s2, s1, hG]
  have hxb : Below w.heap.size w X := by rw [hX]; exact (((Below.refl _ w).alloc (Nat.le_refl _) _).alloc (by omega) _).alloc (by omega) _
  have b0 : X.heap[G]? = some (.cells #[.slice A0 n0 c0, .slice A1 n1 c1, .slice A2 n2 c2, .slice A3 n3 c3, .slice A4 n4 c4, .slice A5 n5 c5, .slice A6 n6 c6, .slice A7 n7 c7, .slice A8 n8 c8] 27 (0, 0)) := by
    rw [hX, hG, Below.heap_alloc _ _ _ (by omega), Below.heap_alloc _ _ _ (by omega)]; exact heap_alloc_new _ _
  have b1 : X.heap[G + 1]? = some (.cells #[.string (bs F.name), .int .i64 F.params, .int .i64 F.regs, .int .i64 F.result, .slice A9 n9 c9] 39 (0, 0)) := by
    rw [hX, hG, Below.heap_alloc _ _ _ (by omega), ← s1]; exact heap_alloc_new _ _
  have b2 : X.heap[G + 2]? = some (.cells #[.int .i64 O.kind, .int .i64 O.a, .int .i64 O.b, .int .i64 O.c, .int .i64 O.d, .int .i64 O.e, .int .i64 O.f, .int .i64 O.k, .slice A10 n10 c10, .int .i64 O.next, .int .i64 O.els, .int .i64 O.pl] 42 (0, 0)) := by
    rw [hX, hG, show w.heap.size + 2 = ((w.alloc (.cells #[.slice A0 n0 c0, .slice A1 n1 c1, .slice A2 n2 c2, .slice A3 n3 c3, .slice A4 n4 c4, .slice A5 n5 c5, .slice A6 n6 c6, .slice A7 n7 c7, .slice A8 n8 c8] 27)).alloc (.cells #[.string (bs F.name), .int .i64 F.params, .int .i64 F.regs, .int .i64 F.result, .slice A9 n9 c9] 39)).heap.size from by omega]; exact heap_alloc_new _ _
  have KX : Hid (∀ wx, Below X.heap.size X wx → (wx.cell? ⟨G, 0, none⟩ = some (.slice A0 n0 c0) ∧ wx.cell? ⟨G, 1, none⟩ = some (.slice A1 n1 c1) ∧ wx.cell? ⟨G, 2, none⟩ = some (.slice A2 n2 c2) ∧ wx.cell? ⟨G, 3, none⟩ = some (.slice A3 n3 c3) ∧ wx.cell? ⟨G, 4, none⟩ = some (.slice A4 n4 c4) ∧ wx.cell? ⟨G, 5, none⟩ = some (.slice A5 n5 c5) ∧ wx.cell? ⟨G, 6, none⟩ = some (.slice A6 n6 c6) ∧ wx.cell? ⟨G, 7, none⟩ = some (.slice A7 n7 c7) ∧ wx.cell? ⟨G, 8, none⟩ = some (.slice A8 n8 c8)) ∧ (wx.cell? ⟨G + 1, 0, none⟩ = some (.string (bs F.name)) ∧ wx.cell? ⟨G + 1, 1, none⟩ = some (.int .i64 F.params) ∧ wx.cell? ⟨G + 1, 2, none⟩ = some (.int .i64 F.regs) ∧ wx.cell? ⟨G + 1, 3, none⟩ = some (.int .i64 F.result) ∧ wx.cell? ⟨G + 1, 4, none⟩ = some (.slice A9 n9 c9)) ∧ (wx.cell? ⟨G + 2, 0, none⟩ = some (.int .i64 O.kind) ∧ wx.cell? ⟨G + 2, 1, none⟩ = some (.int .i64 O.a) ∧ wx.cell? ⟨G + 2, 2, none⟩ = some (.int .i64 O.b) ∧ wx.cell? ⟨G + 2, 3, none⟩ = some (.int .i64 O.c) ∧ wx.cell? ⟨G + 2, 4, none⟩ = some (.int .i64 O.d) ∧ wx.cell? ⟨G + 2, 5, none⟩ = some (.int .i64 O.e) ∧ wx.cell? ⟨G + 2, 6, none⟩ = some (.int .i64 O.f) ∧ wx.cell? ⟨G + 2, 7, none⟩ = some (.int .i64 O.k) ∧ wx.cell? ⟨G + 2, 8, none⟩ = some (.slice A10 n10 c10) ∧ wx.cell? ⟨G + 2, 9, none⟩ = some (.int .i64 O.next) ∧ wx.cell? ⟨G + 2, 10, none⟩ = some (.int .i64 O.els) ∧ wx.cell? ⟨G + 2, 11, none⟩ = some (.int .i64 O.pl))) := Lib.hid (fun wx hb => by
    have a0 := fun j => cell_of_row wx G j _ _ (0, 0) ((hb.block G (by omega)).trans b0)
    have a1 := fun j => cell_of_row wx (G + 1) j _ _ (0, 0) ((hb.block (G + 1) (by omega)).trans b1)
    have a2 := fun j => cell_of_row wx (G + 2) j _ _ (0, 0) ((hb.block (G + 2) (by omega)).trans b2)
    exact ⟨⟨a0 0, a0 1, a0 2, a0 3, a0 4, a0 5, a0 6, a0 7, a0 8⟩, ⟨a1 0, a1 1, a1 2, a1 3, a1 4⟩, ⟨a2 0, a2 1, a2 2, a2 3, a2 4, a2 5, a2 6, a2 7, a2 8, a2 9, a2 10, a2 11⟩⟩)
  obtain ⟨fb, hfb⟩ : ∃ fb, fb = opB m F n O := ⟨_, rfl⟩
  have HFB := Lib.hid hfb
  rw [← hfb]
  have HW := Lib.hid hW
  have HX := Lib.hid hX
  have HG := Lib.hid hG
  have HXS := Lib.hid hxs
  have HXB := Lib.hid hxb
  have HN := Lib.hid hn
  have HARGS := Lib.hid hargs
  have HMF := Lib.hid h.f
  have HE7 := Lib.hid e7
  have HN9 := Lib.hid hn9
  have HN10 := Lib.hid hn10
  have HFN := Lib.hid (fnB_iff hFB)
  have HFS := Lib.hid hfs
  have HFI := Lib.hid hF
  have HOI := Lib.hid hO
  have HN_0 := Lib.hid hn0
  have HN_1 := Lib.hid hn1
  have HN_2 := Lib.hid hn2c
  have HN_3 := Lib.hid hn3
  have HN_4 := Lib.hid hn4
  have HN_5 := Lib.hid hn5
  have HN_6 := Lib.hid hn6
  have HN_7 := Lib.hid hn7
  have HN_8 := Lib.hid hn8
  clear hW hX hG hxs hxb hn hargs h e0 e1 e2 e3 e4 e5 e6 e7 e8 hn0 hn1 hn2c hn3 hn4 hn5 hn6 hn7 hn8 hn9 hn10 hFB hfs hF hO hvv harr s1 s2 b0 b1 b2 hcode hfb hp
  go_enter Tryd.func31, Tryd.ntmps31
  go_upto_region 1 with (fail)
  rw [← HX.out, ← HG.out]
  obtain ⟨⟨k0, k1, k2, k3, k4, k5, k6, k7, k8⟩, ⟨f0, f1, f2, f3, f4⟩, ⟨o0, o1, o2, o3, o4, o5, o6, o7, o8, o9, o10, o11⟩⟩ := KX.out X (Below.refl _ _)
  go_wp2_with fail
  with_reducible refine (shape_any _ _).mono ?_
  rintro e w1 ⟨rfl, hb1⟩
  clear k0 k1 k2 k3 k4 k5 k6 k7 k8 f0 f1 f2 f3 f4 o0 o1 o2 o3 o4 o5 o6 o7 o8 o9 o10 o11
  have HB1 := Lib.hid hb1
  have HE1 := Lib.hid (HXB.out.trans (hb1.mono (by have := HXS.out; have := HG.out; omega)))
  clear hb1
  by_cases hkr : 1 ≤ O.kind ∧ O.kind ≤ 23
  · have h7 := sh_seven hkr
    obtain ⟨us, hus⟩ : ∃ us, us = shT O.kind := ⟨_, rfl⟩
    have hlet := sh_letter hkr
    rw [← hus] at h7 hlet ⊢
    obtain ⟨S, hS⟩ : ∃ S, S = bs us := ⟨_, rfl⟩
    have hsz : S.size = 7 := by rw [hS, bs_size, h7]
    have hne : S.toList.isEmpty = false := by
      rw [hS, bs_toList]
      cases us with
      | nil => simp at h7
      | cons => rfl
    have hne2 : (S.toList == []) = false := by
      rw [hS, bs_toList]
      cases us with
      | nil => simp at h7
      | cons => rfl
    rw [← hS]
    have HUS := Lib.hid hus
    have HS := Lib.hid hS
    have H7 := Lib.hid h7
    have HLET := Lib.hid hlet
    clear hus hS h7 hlet
    obtain ⟨⟨k0, k1, k2, k3, k4, k5, k6, k7, k8⟩, ⟨f0, f1, f2, f3, f4⟩, ⟨o0, o1, o2, o3, o4, o5, o6, o7, o8, o9, o10, o11⟩⟩ := KX.out w1 HB1.out
    obtain ⟨P, hP⟩ : ∃ P, P = w1.heap.size := ⟨_, rfl⟩
    obtain ⟨Y, hY⟩ : ∃ Y : World, Y = w1.alloc (.cells (seven O) 75) := ⟨_, rfl⟩
    have hy0 : Y.heap[P]? = some (.cells (seven O) 75 (0, 0)) := by rw [hY, hP]; exact heap_alloc_new _ _
    have hyb : Below X.heap.size X Y := by rw [hY]; exact HB1.out.alloc HB1.out.size _
    have hys : Y.heap.size = P + 1 := by rw [hY, asz, hP]
    have KV : Hid (∀ wx j, Below Y.heap.size Y wx → j < 7 → wx.cell? ⟨P, j, none⟩ = some (.int .i64 ((fl O)[j]?.getD 0))) := Lib.hid (fun wx j hb hj => by
      rw [cell_of_row wx P j _ _ (0, 0) ((hb.block P (by omega)).trans hy0)]
      exact seven_at O j hj)
    have HY := Lib.hid hY
    have HP := Lib.hid hP
    have HYB := Lib.hid hyb
    have HYS := Lib.hid hys
    unfold seven at hY
    have HY' := Lib.hid hY
    clear hY hP hyb hys hy0
    go_wp2
    rw [← HY'.out, ← HP.out]
    clear k0 k1 k2 k3 k4 k5 k6 k7 k8 f0 f1 f2 f3 f4 o0 o1 o2 o3 o4 o5 o6 o7 o8 o9 o10 o11
    go_loopw [9] (fun i wr => ∃ j : Nat, j ≤ 7 ∧ i = .int .i64 (j : Int) ∧ Hid (∀ t, t < j → fokAt m F n O t = true) ∧ Hid (Below Y.heap.size Y wr)) (fun i _ => 7 - (intOf i).toNat)
    case atStart => exact ⟨0, by omega, rfl, Lib.hid (fun t ht => absurd ht (by omega)), Lib.hid (Below.refl _ _)⟩
    case round =>
      obtain ⟨wo, rfl⟩ : ∃ wo : World, wo = wr := ⟨_, rfl⟩
      obtain ⟨j, hj, rfl, HOK, HBL⟩ := hrel
      have hbX : Below X.heap.size X wo := HYB.out.trans (HBL.out.mono HYB.out.size)
      obtain ⟨⟨k0, k1, k2, k3, k4, k5, k6, k7, k8⟩, ⟨f0, f1, f2, f3, f4⟩, ⟨o0, o1, o2, o3, o4, o5, o6, o7, o8, o9, o10, o11⟩⟩ := KX.out wo hbX
      have HBX := Lib.hid hbX
      have HEO := Lib.hid (HXB.out.trans (hbX.mono (by have := HXS.out; have := HG.out; omega)))
      clear hbX
      by_cases hlt : j < 7
      · have hju : j < us.length := by rw [H7.out]; exact hlt
        have hx := KV.out wo j HBL.out hlt
        have hsj := bs_get HS.out (j := j) (by omega) hju
        have hlt2 := HLET.out _ (List.getElem_mem hju)
        have hfk : fokAt m F n O j = fok m F n us[j].toNat ((fl O)[j]?.getD 0) := by
          unfold fokAt
          rw [← HUS.out, List.getElem?_eq_getElem hju, Option.getD_some]
        obtain ⟨x, hxx⟩ : ∃ x, x = (fl O)[j]?.getD 0 := ⟨_, rfl⟩
        rw [← hxx] at hx hfk
        have HXX := Lib.hid hxx
        obtain ⟨cn, hcn⟩ : ∃ cn, cn = us[j].toNat := ⟨_, rfl⟩
        rw [← hcn] at hsj hlt2 hfk
        have HNX : Hid (fokAt m F n O j = true → ∀ t, t < j + 1 → fokAt m F n O t = true) := Lib.hid (fun h t ht => by
          rcases Nat.lt_or_ge t j with h1 | h1
          · exact HOK.out t h1
          · obtain rfl : t = j := by omega
            exact h)
        have HNO : Hid (fokAt m F n O j = false → fb = false) := Lib.hid (fun h => by rw [HFB.out]; exact opB_fok hkr hlt h)
        clear hcn hxx
        simp only [letters, List.mem_cons, List.not_mem_nil, or_false] at hlt2
        rcases hlt2 with rfl | rfl | rfl | rfl | rfl | rfl | rfl | rfl | rfl | rfl | rfl | rfl | rfl | rfl | rfl | rfl
        · have HT := Lib.hid (HNX.out (by rw [hfk]; rfl))
          clear hfk
          go_wp2
          go_roundw
          case rel => exact ⟨j + 1, by omega, by go_num, HT, HBL⟩
          case measure => simp [intOf]; omega
        · have HT := Lib.hid (HNX.out (by rw [hfk]; rfl))
          clear hfk
          go_wp2
          go_roundw
          case rel => exact ⟨j + 1, by omega, by go_num, HT, HBL⟩
          case measure => simp [intOf]; omega
        · have hbd : bnd m F n 46 = (0, 1) := by
            unfold bnd
            simp
          have hfo : fokAt m F n O j = decide (0 ≤ x ∧ x < 1) := by
            rw [hfk]
            unfold fok
            rw [hbd]
            simp
          clear hfk hbd
          by_cases h1 : x < 0
          · have HT := Lib.hid (HNO.out (by rw [hfo]; simp; omega))
            clear hfo
            go_wp2
            go_ret
            exact ⟨rbool HT.out.symm, HEO.out⟩
          · by_cases h2 : 1 ≤ x
            · have HT := Lib.hid (HNO.out (by rw [hfo]; simp; omega))
              clear hfo
              go_wp2
              go_ret
              exact ⟨rbool HT.out.symm, HEO.out⟩
            · have HT := Lib.hid (HNX.out (by rw [hfo]; simp; omega))
              clear hfo
              go_wp2
              go_roundw
              case rel => exact ⟨j + 1, by omega, by go_num, HT, HBL⟩
              case measure => simp [intOf]; omega
        · have hbd : bnd m F n 114 = (0, F.regs) := by
            unfold bnd
            simp
          have hfo : fokAt m F n O j = decide (0 ≤ x ∧ x < F.regs) := by
            rw [hfk]
            unfold fok
            rw [hbd]
            simp
          clear hfk hbd
          by_cases h1 : x < 0
          · have HT := Lib.hid (HNO.out (by rw [hfo]; simp; omega))
            clear hfo
            go_wp2
            go_ret
            exact ⟨rbool HT.out.symm, HEO.out⟩
          · by_cases h2 : F.regs ≤ x
            · have HT := Lib.hid (HNO.out (by rw [hfo]; simp; omega))
              clear hfo
              go_wp2
              go_ret
              exact ⟨rbool HT.out.symm, HEO.out⟩
            · have HT := Lib.hid (HNX.out (by rw [hfo]; simp; omega))
              clear hfo
              go_wp2
              go_roundw
              case rel => exact ⟨j + 1, by omega, by go_num, HT, HBL⟩
              case measure => simp [intOf]; omega
        · have hbd : bnd m F n 105 = (0, (n4 : Int)) := by
            unfold bnd
            simp [HN_4.out]
          have hfo : fokAt m F n O j = decide (0 ≤ x ∧ x < (n4 : Int)) := by
            rw [hfk]
            unfold fok
            rw [hbd]
            simp
          clear hfk hbd
          by_cases h1 : x < 0
          · have HT := Lib.hid (HNO.out (by rw [hfo]; simp; omega))
            clear hfo
            go_wp2
            go_ret
            exact ⟨rbool HT.out.symm, HEO.out⟩
          · by_cases h2 : (n4 : Int) ≤ x
            · have HT := Lib.hid (HNO.out (by rw [hfo]; simp; omega))
              clear hfo
              go_wp2
              go_ret
              exact ⟨rbool HT.out.symm, HEO.out⟩
            · have HT := Lib.hid (HNX.out (by rw [hfo]; simp; omega))
              clear hfo
              go_wp2
              go_roundw
              case rel => exact ⟨j + 1, by omega, by go_num, HT, HBL⟩
              case measure => simp [intOf]; omega
        · have hbd : bnd m F n 104 = (0, (n6 : Int)) := by
            unfold bnd
            simp [HN_6.out]
          have hfo : fokAt m F n O j = decide (0 ≤ x ∧ x < (n6 : Int)) := by
            rw [hfk]
            unfold fok
            rw [hbd]
            simp
          clear hfk hbd
          by_cases h1 : x < 0
          · have HT := Lib.hid (HNO.out (by rw [hfo]; simp; omega))
            clear hfo
            go_wp2
            go_ret
            exact ⟨rbool HT.out.symm, HEO.out⟩
          · by_cases h2 : (n6 : Int) ≤ x
            · have HT := Lib.hid (HNO.out (by rw [hfo]; simp; omega))
              clear hfo
              go_wp2
              go_ret
              exact ⟨rbool HT.out.symm, HEO.out⟩
            · have HT := Lib.hid (HNX.out (by rw [hfo]; simp; omega))
              clear hfo
              go_wp2
              go_roundw
              case rel => exact ⟨j + 1, by omega, by go_num, HT, HBL⟩
              case measure => simp [intOf]; omega
        · have hbd : bnd m F n 119 = (0, n) := by
            unfold bnd
            simp
          have hfo : fokAt m F n O j = decide (0 ≤ x ∧ x < n) := by
            rw [hfk]
            unfold fok
            rw [hbd]
            simp
          clear hfk hbd
          have HWC := Lib.hid (HW.out wo HEO.out)
          clear f0 f1 f3 f4 o0 o1 o2 o3 o4 o5 o6 o7 o8 o9 o10 o11
          by_cases h1 : x < 0
          · have HT := Lib.hid (HNO.out (by rw [hfo]; simp; omega))
            clear hfo
            go_wp2_with fail
            refine HWC.out.mono ?_
            rintro e w2 ⟨rfl, hb2⟩
            have HB2 := Lib.hid (HBL.out.trans (hb2.mono HBL.out.size))
            have HE2 := Lib.hid (HEO.out.trans (hb2.mono HEO.out.size))
            have hx2 := KV.out w2 j HB2.out hlt
            rw [← HXX.out] at hx2
            clear hb2 HWC k0 k1 k2 k3 k4 k5 k6 k7 k8 hx
            go_wp2
            go_ret
            exact ⟨rbool HT.out.symm, HE2.out⟩
          · by_cases h2 : n ≤ x
            · have HT := Lib.hid (HNO.out (by rw [hfo]; simp; omega))
              clear hfo
              go_wp2_with fail
              refine HWC.out.mono ?_
              rintro e w2 ⟨rfl, hb2⟩
              have HB2 := Lib.hid (HBL.out.trans (hb2.mono HBL.out.size))
              have HE2 := Lib.hid (HEO.out.trans (hb2.mono HEO.out.size))
              have hx2 := KV.out w2 j HB2.out hlt
              rw [← HXX.out] at hx2
              clear hb2 HWC k0 k1 k2 k3 k4 k5 k6 k7 k8 hx
              go_wp2
              go_ret
              exact ⟨rbool HT.out.symm, HE2.out⟩
            · have HT := Lib.hid (HNX.out (by rw [hfo]; simp; omega))
              clear hfo
              go_wp2_with fail
              refine HWC.out.mono ?_
              rintro e w2 ⟨rfl, hb2⟩
              have HB2 := Lib.hid (HBL.out.trans (hb2.mono HBL.out.size))
              have HE2 := Lib.hid (HEO.out.trans (hb2.mono HEO.out.size))
              have hx2 := KV.out w2 j HB2.out hlt
              rw [← HXX.out] at hx2
              clear hb2 HWC k0 k1 k2 k3 k4 k5 k6 k7 k8 hx
              go_wp2
              go_roundw
              case rel => exact ⟨j + 1, by omega, by go_num, HT, HB2⟩
              case measure => simp [intOf]; omega
        · have hbd : bnd m F n 115 = (0, (n1 : Int)) := by
            unfold bnd
            simp [HN_1.out]
          have hfo : fokAt m F n O j = decide (0 ≤ x ∧ x < (n1 : Int)) := by
            rw [hfk]
            unfold fok
            rw [hbd]
            simp
          clear hfk hbd
          by_cases h1 : x < 0
          · have HT := Lib.hid (HNO.out (by rw [hfo]; simp; omega))
            clear hfo
            go_wp2
            go_ret
            exact ⟨rbool HT.out.symm, HEO.out⟩
          · by_cases h2 : (n1 : Int) ≤ x
            · have HT := Lib.hid (HNO.out (by rw [hfo]; simp; omega))
              clear hfo
              go_wp2
              go_ret
              exact ⟨rbool HT.out.symm, HEO.out⟩
            · have HT := Lib.hid (HNX.out (by rw [hfo]; simp; omega))
              clear hfo
              go_wp2
              go_roundw
              case rel => exact ⟨j + 1, by omega, by go_num, HT, HBL⟩
              case measure => simp [intOf]; omega
        · have hbd : bnd m F n 108 = (0, (n3 : Int)) := by
            unfold bnd
            simp [HN_3.out]
          have hfo : fokAt m F n O j = decide (0 ≤ x ∧ x < (n3 : Int)) := by
            rw [hfk]
            unfold fok
            rw [hbd]
            simp
          clear hfk hbd
          by_cases h1 : x < 0
          · have HT := Lib.hid (HNO.out (by rw [hfo]; simp; omega))
            clear hfo
            go_wp2
            go_ret
            exact ⟨rbool HT.out.symm, HEO.out⟩
          · by_cases h2 : (n3 : Int) ≤ x
            · have HT := Lib.hid (HNO.out (by rw [hfo]; simp; omega))
              clear hfo
              go_wp2
              go_ret
              exact ⟨rbool HT.out.symm, HEO.out⟩
            · have HT := Lib.hid (HNX.out (by rw [hfo]; simp; omega))
              clear hfo
              go_wp2
              go_roundw
              case rel => exact ⟨j + 1, by omega, by go_num, HT, HBL⟩
              case measure => simp [intOf]; omega
        · have hbd : bnd m F n 99 = (0, (n2 : Int)) := by
            unfold bnd
            simp [HN_2.out]
          have hfo : fokAt m F n O j = decide (0 ≤ x ∧ x < (n2 : Int)) := by
            rw [hfk]
            unfold fok
            rw [hbd]
            simp
          clear hfk hbd
          by_cases h1 : x < 0
          · have HT := Lib.hid (HNO.out (by rw [hfo]; simp; omega))
            clear hfo
            go_wp2
            go_ret
            exact ⟨rbool HT.out.symm, HEO.out⟩
          · by_cases h2 : (n2 : Int) ≤ x
            · have HT := Lib.hid (HNO.out (by rw [hfo]; simp; omega))
              clear hfo
              go_wp2
              go_ret
              exact ⟨rbool HT.out.symm, HEO.out⟩
            · have HT := Lib.hid (HNX.out (by rw [hfo]; simp; omega))
              clear hfo
              go_wp2
              go_roundw
              case rel => exact ⟨j + 1, by omega, by go_num, HT, HBL⟩
              case measure => simp [intOf]; omega
        · have hbd : bnd m F n 111 = (0, (n5 : Int)) := by
            unfold bnd
            simp [HN_5.out]
          have hfo : fokAt m F n O j = decide (0 ≤ x ∧ x < (n5 : Int)) := by
            rw [hfk]
            unfold fok
            rw [hbd]
            simp
          clear hfk hbd
          by_cases h1 : x < 0
          · have HT := Lib.hid (HNO.out (by rw [hfo]; simp; omega))
            clear hfo
            go_wp2
            go_ret
            exact ⟨rbool HT.out.symm, HEO.out⟩
          · by_cases h2 : (n5 : Int) ≤ x
            · have HT := Lib.hid (HNO.out (by rw [hfo]; simp; omega))
              clear hfo
              go_wp2
              go_ret
              exact ⟨rbool HT.out.symm, HEO.out⟩
            · have HT := Lib.hid (HNX.out (by rw [hfo]; simp; omega))
              clear hfo
              go_wp2
              go_roundw
              case rel => exact ⟨j + 1, by omega, by go_num, HT, HBL⟩
              case measure => simp [intOf]; omega
        · have hbd : bnd m F n 102 = (0, (n7 : Int)) := by
            unfold bnd
            simp [HN_7.out]
          have hfo : fokAt m F n O j = decide (0 ≤ x ∧ x < (n7 : Int)) := by
            rw [hfk]
            unfold fok
            rw [hbd]
            simp
          clear hfk hbd
          by_cases h1 : x < 0
          · have HT := Lib.hid (HNO.out (by rw [hfo]; simp; omega))
            clear hfo
            go_wp2
            go_ret
            exact ⟨rbool HT.out.symm, HEO.out⟩
          · by_cases h2 : (n7 : Int) ≤ x
            · have HT := Lib.hid (HNO.out (by rw [hfo]; simp; omega))
              clear hfo
              go_wp2
              go_ret
              exact ⟨rbool HT.out.symm, HEO.out⟩
            · have HT := Lib.hid (HNX.out (by rw [hfo]; simp; omega))
              clear hfo
              go_wp2
              go_roundw
              case rel => exact ⟨j + 1, by omega, by go_num, HT, HBL⟩
              case measure => simp [intOf]; omega
        · have hbd : bnd m F n 107 = (0, 2) := by
            unfold bnd
            simp
          have hfo : fokAt m F n O j = decide (0 ≤ x ∧ x < 2) := by
            rw [hfk]
            unfold fok
            rw [hbd]
            simp
          clear hfk hbd
          by_cases h1 : x < 0
          · have HT := Lib.hid (HNO.out (by rw [hfo]; simp; omega))
            clear hfo
            go_wp2
            go_ret
            exact ⟨rbool HT.out.symm, HEO.out⟩
          · by_cases h2 : 2 ≤ x
            · have HT := Lib.hid (HNO.out (by rw [hfo]; simp; omega))
              clear hfo
              go_wp2
              go_ret
              exact ⟨rbool HT.out.symm, HEO.out⟩
            · have HT := Lib.hid (HNX.out (by rw [hfo]; simp; omega))
              clear hfo
              go_wp2
              go_roundw
              case rel => exact ⟨j + 1, by omega, by go_num, HT, HBL⟩
              case measure => simp [intOf]; omega
        · have hbd : bnd m F n 117 = (1, 3) := by
            unfold bnd
            simp
          have hfo : fokAt m F n O j = decide (1 ≤ x ∧ x < 3) := by
            rw [hfk]
            unfold fok
            rw [hbd]
            simp
          clear hfk hbd
          by_cases h1 : x < 1
          · have HT := Lib.hid (HNO.out (by rw [hfo]; simp; omega))
            clear hfo
            go_wp2
            go_ret
            exact ⟨rbool HT.out.symm, HEO.out⟩
          · by_cases h2 : 3 ≤ x
            · have HT := Lib.hid (HNO.out (by rw [hfo]; simp; omega))
              clear hfo
              go_wp2
              go_ret
              exact ⟨rbool HT.out.symm, HEO.out⟩
            · have HT := Lib.hid (HNX.out (by rw [hfo]; simp; omega))
              clear hfo
              go_wp2
              go_roundw
              case rel => exact ⟨j + 1, by omega, by go_num, HT, HBL⟩
              case measure => simp [intOf]; omega
        · have hbd : bnd m F n 98 = (1, 12) := by
            unfold bnd
            simp
          have hfo : fokAt m F n O j = decide (1 ≤ x ∧ x < 12) := by
            rw [hfk]
            unfold fok
            rw [hbd]
            simp
          clear hfk hbd
          by_cases h1 : x < 1
          · have HT := Lib.hid (HNO.out (by rw [hfo]; simp; omega))
            clear hfo
            go_wp2
            go_ret
            exact ⟨rbool HT.out.symm, HEO.out⟩
          · by_cases h2 : 12 ≤ x
            · have HT := Lib.hid (HNO.out (by rw [hfo]; simp; omega))
              clear hfo
              go_wp2
              go_ret
              exact ⟨rbool HT.out.symm, HEO.out⟩
            · have HT := Lib.hid (HNX.out (by rw [hfo]; simp; omega))
              clear hfo
              go_wp2
              go_roundw
              case rel => exact ⟨j + 1, by omega, by go_num, HT, HBL⟩
              case measure => simp [intOf]; omega
        · have hbd : bnd m F n 103 = (0, 16) := by
            unfold bnd
            simp
          have hfo : fokAt m F n O j = decide (0 ≤ x ∧ x < 16) := by
            rw [hfk]
            unfold fok
            rw [hbd]
            simp
          clear hfk hbd
          by_cases h1 : x < 0
          · have HT := Lib.hid (HNO.out (by rw [hfo]; simp; omega))
            clear hfo
            go_wp2
            go_ret
            exact ⟨rbool HT.out.symm, HEO.out⟩
          · by_cases h2 : 16 ≤ x
            · have HT := Lib.hid (HNO.out (by rw [hfo]; simp; omega))
              clear hfo
              go_wp2
              go_ret
              exact ⟨rbool HT.out.symm, HEO.out⟩
            · have HT := Lib.hid (HNX.out (by rw [hfo]; simp; omega))
              clear hfo
              go_wp2
              go_roundw
              case rel => exact ⟨j + 1, by omega, by go_num, HT, HBL⟩
              case measure => simp [intOf]; omega
      · have HJ : Hid (j = 7) := Lib.hid (by omega)
        have HAL : Hid (allOk m F n O = true) := Lib.hid (by
          unfold allOk
          rw [List.all_eq_true]
          intro t ht
          exact HOK.out t (by have := List.mem_range.1 ht; omega))
        have HFR := Lib.hid (fields_ref (m := m) (F := F) (n := n) hkr)
        have HOPB : Hid (fb = (fieldsB m F n O && argsB m F O && waysB F O)) := HFB
        go_upto_region 46 with (fail)
        go_upto_block 3 with fail
        clear HOK
        go_cut [12] from 123 to 184 (fun a wx => a = .int .i64 (countB m F O) ∧ Hid (fieldsB m F n O = true) ∧ Hid (Below X.heap.size X wx))
        case first =>
          have hn22 : O.kind = 22 → 0 ≤ O.a ∧ O.a < (n7 : Int) := fun hk => by
            have h1 := HAL.out
            unfold allOk at h1
            rw [List.all_eq_true] at h1
            have h2 := h1 0 (by simp)
            unfold fokAt at h2
            rw [hk] at h2
            have h3 : fok m F n 102 O.a = true := h2
            unfold fok bnd at h3
            simp [← HN_7.out] at h3
            exact h3
          have HN22 := Lib.hid hn22
          clear hn22
          by_cases h10 : O.kind = 10 ∨ O.kind = 15
          · have hc : ¬ O.kind = 22 ∧ ¬ O.kind = 23 := by omega
            by_cases hab : O.a = O.b
            · have HF0 : Hid (fb = false) := Lib.hid (by
                rw [HOPB.out, HFR.out]
                unfold cutOk
                simp [h10, hab])
              have hab2 : (O.a == O.b) = true := by simpa using hab
              rcases h10 with h10 | h10
              all_goals
                rw [h10] at o0
                go_wp2
                go_ret
                exact ⟨rbool HF0.out.symm, HEO.out⟩
            · have hab2 : (O.a == O.b) = false := by simpa using hab
              have HFT : Hid (fieldsB m F n O = true) := Lib.hid (by
                rw [HFR.out, HAL.out]
                unfold cutOk
                simp [hab, hc.1])
              have HCT : Hid (countB m F O = 0) := Lib.hid (by unfold countB; rw [if_neg hc.1, if_neg hc.2])
              rcases h10 with h10 | h10
              all_goals
                rw [h10] at o0
                go_wp2
                go_meet
                case rel => exact ⟨by rw [HCT.out], HFT, HBX⟩
          · by_cases h22 : O.kind = 22
            · obtain ⟨hq0, hq1⟩ := HN22.out h22
              obtain ⟨q, hq⟩ := Int.eq_ofNat_of_zero_le hq0
              have hqn : q < n7 := by omega
              have hqf : q < m.funcs.length := by rw [← HN_7.out]; exact hqn
              have hfl := HMF.out
              rw [HE7.out] at hfl
              obtain ⟨b, off, cvq, rfl, hbS, hatq, hcq, -⟩ := hfl.fn q hqf
              have hatw := hatq.keep (HEO.out.block b hbS)
              have hmem := List.getElem_mem hqf
              have hfq := fnB_iff (List.all_eq_true.1 HFS.out _ hmem)
              have hcal : calledB m O.a = some m.funcs[q] := by unfold calledB; rw [hq, Int.toNat_natCast, List.getElem?_eq_getElem hqf]
              obtain ⟨Fq, hFq⟩ : ∃ f, f = m.funcs[q] := ⟨_, rfl⟩
              rw [← hFq] at hatw hcq hfq hcal
              obtain ⟨AQ, cQ, rfl, -, -⟩ := hcq.form
              obtain ⟨nQ, hnQ⟩ : ∃ n, n = Fq.code.length := ⟨_, rfl⟩
              rw [← hnQ] at hatw
              obtain ⟨r0, r1, r2, r3, r4⟩ := hatw
              have HCT : Hid (countB m F O = Fq.params) := Lib.hid (by unfold countB; rw [if_pos h22, hcal]; rfl)
              have HRB : Hid (resB m F O = if O.k = 0 then decide (O.b = -1) else decide (O.k = Fq.result) && rg 0 (F.regs - O.k) O.b) := Lib.hid (by unfold resB; rw [hcal]; rfl)
              have HFT : Hid (fieldsB m F n O = resB m F O) := Lib.hid (by
                rw [HFR.out, HAL.out]
                unfold cutOk
                simp [h22])
              have HFF : Hid (resB m F O = false → fb = false) := Lib.hid (fun h => by rw [HOPB.out, HFT.out, h]; simp)
              obtain ⟨⟨y0, y1, y2, y3, y4, y5, y6, y7, y8⟩, ⟨g0, g1, g2, g3, g4⟩, ⟨x0, x1, x2, x3, x4, x5, x6, x7, x8, x9, x10, x11⟩⟩ := KX.out (wo.alloc (.cells #[.string (bs Fq.name), .int .i64 Fq.params, .int .i64 Fq.regs, .int .i64 Fq.result, .slice AQ nQ cQ] 39)) (HBX.out.alloc HBX.out.size _)
              have HBZ : Hid (Below X.heap.size X (wo.alloc (.cells #[.string (bs Fq.name), .int .i64 Fq.params, .int .i64 Fq.regs, .int .i64 Fq.result, .slice AQ nQ cQ] 39))) := Lib.hid (HBX.out.alloc HBX.out.size _)
              have HEZ : Hid (Below w.heap.size w (wo.alloc (.cells #[.string (bs Fq.name), .int .i64 Fq.params, .int .i64 Fq.regs, .int .i64 Fq.result, .slice AQ nQ cQ] 39))) := Lib.hid (HEO.out.alloc HEO.out.size _)
              clear y0 y1 y2 y3 y4 y5 y6 y7 y8 x0 x3 x4 x5 x6 x8 x9 x10 x11 g0 g1 g3 g4 hcq hnQ hFq hcal hatq hfl hmem hq0 hq1
              rw [h22] at o0
              rw [hq] at o1
              have HQ := Lib.hid hq
              have HFN2 := HFN.out
              have e1 : (O.kind == 10) = false := by simp; omega
              have e2 : (O.kind == 15) = false := by simp; omega
              have e3 : (O.kind == 22) = true := by simp; omega
              clear hq h22 h10
              by_cases hK : O.k = 0
              · rw [hK] at x7
                by_cases hB : O.b = -1
                · have HRT : Hid (fieldsB m F n O = true) := Lib.hid (by rw [HFT.out, HRB.out, if_pos hK]; simpa using hB)
                  rw [hB] at x2
                  go_wp2
                  go_meet
                  case rel => exact ⟨by rw [HCT.out], HRT, HBZ⟩
                · have HF0 : Hid (fb = false) := Lib.hid (HFF.out (by rw [HRB.out, if_pos hK]; simpa using hB))
                  have q1 : (O.b == -1) = false := by simpa using hB
                  by_cases hR : Fq.result = 0
                  · have q2 : ((0 : Int) != Fq.result) = false := by simp [hR]
                    have q3 : ((0 : Int) == Fq.result) = true := by simp [hR]
                    clear hR
                    go_wp2
                    go_ret
                    exact ⟨rbool HF0.out.symm, HEZ.out⟩
                  · have q2 : ((0 : Int) != Fq.result) = true := by simp; omega
                    have q3 : ((0 : Int) == Fq.result) = false := by simp; omega
                    go_wp2
                    go_ret
                    exact ⟨rbool HF0.out.symm, HEZ.out⟩
              · have q1 : (O.k == 0) = false := by simpa using hK
                have q1' : (O.k != 0) = true := by simpa using hK
                by_cases hR : O.k = Fq.result
                · have q2 : (O.k != Fq.result) = false := by simp [hR]
                  have q3 : (O.k == Fq.result) = true := by simp [hR]
                  have w1' := IntWalk.i64_in (F.regs - O.k) (by omega)
                  have HR := Lib.hid hR
                  clear hR
                  by_cases hb0 : O.b < 0
                  · have HF0 : Hid (fb = false) := Lib.hid (HFF.out (by rw [HRB.out, if_neg hK]; simp [rg]; omega))
                    go_wp2
                    go_ret
                    exact ⟨rbool HF0.out.symm, HEZ.out⟩
                  · by_cases hb1 : F.regs ≤ O.b
                    · have HF0 : Hid (fb = false) := Lib.hid (HFF.out (by rw [HRB.out, if_neg hK]; simp [rg]; omega))
                      go_wp2
                      go_ret
                      exact ⟨rbool HF0.out.symm, HEZ.out⟩
                    · by_cases hb2 : F.regs - O.k < O.b
                      · have HF0 : Hid (fb = false) := Lib.hid (HFF.out (by rw [HRB.out, if_neg hK]; simp [rg]; omega))
                        go_wp2
                        go_ret
                        exact ⟨rbool HF0.out.symm, HEZ.out⟩
                      · have HRT : Hid (fieldsB m F n O = true) := Lib.hid (by rw [HFT.out, HRB.out, if_neg hK]; simp [rg, HR.out]; have := HR.out; omega)
                        go_wp2
                        go_meet
                        case rel => exact ⟨by rw [HCT.out], HRT, HBZ⟩
                · have HF0 : Hid (fb = false) := Lib.hid (HFF.out (by rw [HRB.out, if_neg hK]; simp [hR]))
                  have q2 : (O.k != Fq.result) = true := by simpa using hR
                  have q3 : (O.k == Fq.result) = false := by simpa using hR
                  go_wp2
                  go_ret
                  exact ⟨rbool HF0.out.symm, HEZ.out⟩
            · by_cases h23 : O.kind = 23
              · have HFT : Hid (fieldsB m F n O = true) := Lib.hid (by
                  rw [HFR.out, HAL.out]
                  unfold cutOk
                  simp [h23])
                have HCT : Hid (countB m F O = F.result) := Lib.hid (by unfold countB; rw [if_neg h22, if_pos h23])
                rw [h23] at o0
                clear h10 h22
                go_wp2
                go_meet
                case rel => exact ⟨by rw [HCT.out], HFT, HBX⟩
              · have HFT : Hid (fieldsB m F n O = true) := Lib.hid (by
                  rw [HFR.out, HAL.out]
                  unfold cutOk
                  simp [h10, h22])
                have HCT : Hid (countB m F O = 0) := Lib.hid (by unfold countB; rw [if_neg h22, if_neg h23])
                have q1 : (O.kind == 10) = false := by simp; omega
                have q2 : (O.kind == 15) = false := by simp; omega
                have q3 : (O.kind == 22) = false := by simpa using h22
                have q4 : (O.kind == 23) = false := by simpa using h23
                go_wp2
                go_meet
                case rel => exact ⟨by rw [HCT.out], HFT, HBX⟩
        case rest =>
          obtain ⟨rfl, HFT, HBC⟩ := hcut
          have HEC := Lib.hid (HXB.out.trans (HBC.out.mono (by have := HXS.out; have := HG.out; omega)))
          clear k0 k1 k2 k3 k4 k5 k6 k7 k8 f0 f1 f2 f3 f4 o0 o1 o2 o3 o4 o5 o6 o7 o8 o9 o10 o11
          obtain ⟨-, ⟨f0, f1, f2, f3, f4⟩, ⟨o0, o1, o2, o3, o4, o5, o6, o7, o8, o9, o10, o11⟩⟩ := KX.out wc HBC.out
          clear f0 f1 f3 o1 o2 o3 o4 o5 o6 o7 o11
          have HFB2 : Hid (fb = (argsB m F O && waysB F O)) := Lib.hid (by rw [HOPB.out, HFT.out, Bool.true_and])
          have HAB : Hid (argsB m F O = (decide ((O.args.length : Int) = countB m F O) && wi 0 (F.regs - 1) O.args)) := Lib.hid rfl
          obtain ⟨cnt, hcnt⟩ : ∃ c, c = countB m F O := ⟨_, rfl⟩
          rw [← hcnt] at HAB ⊢
          clear hcnt HFB HOPB HFR HAL HX HBX HEO
          by_cases hl : (n10 : Int) = cnt
          · subst hl
            go_wp2
            clear f2 f4 o0 o8 o9 o10
            go_loopw [15] (fun i wr => ∃ t : Nat, t ≤ n10 ∧ i = .int .i64 (t : Int) ∧ Hid (∀ y ∈ O.args.take t, rg 0 (F.regs - 1) y = true) ∧ Hid (Below X.heap.size X wr)) (fun i _ => n10 - (intOf i).toNat)
            case atStart => exact ⟨0, Nat.zero_le _, rfl, Lib.hid (by simp), HBC⟩
            case round =>
              obtain ⟨wl, rfl⟩ : ∃ wl : World, wl = wr := ⟨_, rfl⟩
              obtain ⟨t, ht, rfl, HTA, HBL2⟩ := hrel
              have HEC := Lib.hid (HXB.out.trans (HBL2.out.mono (by have := HXS.out; have := HG.out; omega)))
              obtain ⟨-, ⟨f0, f1, f2, f3, f4⟩, ⟨o0, o1, o2, o3, o4, o5, o6, o7, o8, o9, o10, o11⟩⟩ := KX.out wl HBL2.out
              clear f0 f1 f3 o1 o2 o3 o4 o5 o6 o7 o11
              by_cases hlt4 : t < n10
              · have hta : t < O.args.length := by rw [← HN10.out]; exact hlt4
                obtain ⟨b, off, rfl, hbS, rr0, hiy⟩ := HARGS.out.int t hta
                have rr := (HEC.out.cell (p := ⟨b, off + t, none⟩) hbS).trans rr0
                have hmem := List.getElem_mem hta
                obtain ⟨y, hy⟩ : ∃ y, y = O.args[t] := ⟨_, rfl⟩
                have htk : O.args.take (t + 1) = O.args.take t ++ [y] := by rw [List.take_add_one, List.getElem?_eq_getElem hta, Option.toList_some, hy]
                rw [← hy] at rr hmem
                have HTK := Lib.hid htk
                have HBAD : Hid (¬ (0 ≤ y ∧ y ≤ F.regs - 1) → fb = false) := Lib.hid (fun hn => by
                  rw [HFB2.out, HAB.out]
                  have : wi 0 (F.regs - 1) O.args = false := by
                    unfold wi
                    rw [List.all_eq_false]
                    exact ⟨y, hmem, by rw [Bool.not_eq_true]; unfold rg; simpa using hn⟩
                  rw [this]
                  simp)
                clear rr0 hy htk hmem hiy
                by_cases hy0 : y < 0
                · have HF0 := Lib.hid (HBAD.out (by omega))
                  have dy : decide (y < 0) = true := decide_eq_true hy0
                  go_wp2_with fail
                  go_quiet (fail)
                  go_wp2
                  go_ret
                  exact ⟨rbool HF0.out.symm, below_drewN HEC.out _⟩
                · by_cases hy1 : F.regs ≤ y
                  · have HF0 := Lib.hid (HBAD.out (by omega))
                    have dy : decide (y < 0) = false := decide_eq_false hy0
                    go_wp2_with fail
                    go_quiet (fail)
                    go_wp2
                    go_ret
                    exact ⟨rbool HF0.out.symm, below_drewN HEC.out _⟩
                  · have HT2 : Hid (∀ y ∈ O.args.take (t + 1), rg 0 (F.regs - 1) y = true) := Lib.hid (fun z hz => by
                      rw [HTK.out] at hz
                      rcases List.mem_append.1 hz with hz | hz
                      · exact HTA.out z hz
                      · simp at hz; subst hz; exact rg_true (by omega))
                    have dy : decide (y < 0) = false := decide_eq_false hy0
                    go_wp2_with fail
                    go_quiet (fail)
                    go_wp2
                    go_roundw
                    case rel => exact ⟨t + 1, by omega, by go_num, HT2, Lib.hid (below_drewN HBL2.out _)⟩
                    case measure => simp [intOf]; omega
              · have HF3 : Hid (fb = waysB F O) := Lib.hid (by
                  have h1 := HTA.out
                  rw [List.take_of_length_le (by rw [← HN10.out]; omega)] at h1
                  have h2 : wi 0 (F.regs - 1) O.args = true := List.all_eq_true.2 h1
                  rw [HFB2.out, HAB.out, h2, ← HN10.out]
                  simp)
                by_cases hk23 : O.kind = 23
                · have hw : waysB F O = (decide (O.next = 0) && decide (O.els = 0)) := by
                    unfold waysB
                    rw [if_pos hk23]
                    apply Bool.eq_iff_iff.2
                    simp [rg]
                    omega
                  have HF4 := Lib.hid (HF3.out.trans hw)
                  clear hw
                  rw [hk23] at o0
                  by_cases hn0 : O.next = 0
                  · rw [hn0] at o9
                    have HF5 : Hid (fb = decide (O.els = 0)) := Lib.hid (by rw [HF4.out]; simp [hn0])
                    go_wp2
                    go_ret
                    exact ⟨rbool (by rw [HF5.out]; first | rfl | (apply Bool.eq_iff_iff.2; simp)), HEC.out⟩
                  · have q1 : (O.next == 0) = false := by simpa using hn0
                    have HF5 : Hid (fb = false) := Lib.hid (by rw [HF4.out]; simp [hn0])
                    go_wp2
                    go_ret
                    exact ⟨rbool HF5.out.symm, HEC.out⟩
                · have q0 : (O.kind == 23) = false := by simpa using hk23
                  by_cases hn0 : 0 ≤ O.next ∧ O.next < (n9 : Int)
                  · by_cases hk21 : O.kind = 21
                    · have HF5 : Hid (fb = decide (0 ≤ O.els ∧ O.els < (n9 : Int))) := Lib.hid (by
                        rw [HF3.out]
                        unfold waysB
                        rw [if_neg hk23, if_pos hk21, ← HN9.out]
                        apply Bool.eq_iff_iff.2
                        simp [rg]
                        omega)
                      rw [hk21] at o0
                      clear q0 hk23
                      by_cases he0 : O.els < 0
                      · have HF6 : Hid (fb = false) := Lib.hid (by rw [HF5.out]; simp; omega)
                        go_wp2
                        go_ret
                        exact ⟨rbool HF6.out.symm, HEC.out⟩
                      · by_cases he1 : O.els < (n9 : Int)
                        · have HF6 : Hid (fb = true) := Lib.hid (by rw [HF5.out]; simp; omega)
                          go_wp2
                          go_ret
                          exact ⟨rbool HF6.out.symm, HEC.out⟩
                        · have HF6 : Hid (fb = false) := Lib.hid (by rw [HF5.out]; simp; omega)
                          go_wp2
                          go_ret
                          exact ⟨rbool HF6.out.symm, HEC.out⟩
                    · have HF5 : Hid (fb = decide (O.els = 0)) := Lib.hid (by
                        rw [HF3.out]
                        unfold waysB
                        rw [if_neg hk23, if_neg hk21, ← HN9.out]
                        apply Bool.eq_iff_iff.2
                        simp [rg]
                        omega)
                      have q2 : (O.kind == 21) = false := by simpa using hk21
                      have q3 : (O.kind != 21) = true := by simpa using hk21
                      by_cases he : O.els = 0
                      · have HF6 : Hid (fb = true) := Lib.hid (by rw [HF5.out]; simpa using he)
                        rw [he] at o10
                        go_wp2
                        go_ret
                        exact ⟨rbool HF6.out.symm, HEC.out⟩
                      · have HF6 : Hid (fb = false) := Lib.hid (by rw [HF5.out]; simpa using he)
                        have q4 : (O.els == 0) = false := by simpa using he
                        go_wp2
                        go_ret
                        exact ⟨rbool HF6.out.symm, HEC.out⟩
                  · have HF5 : Hid (fb = false) := Lib.hid (by
                      rw [HF3.out]
                      unfold waysB
                      rw [if_neg hk23, ← HN9.out]
                      have h1 : rg 0 ((n9 : Int) - 1) O.next = false := by unfold rg; simp; omega
                      rw [h1]
                      simp)
                    by_cases hn1 : O.next < 0
                    · go_wp2
                      go_ret
                      exact ⟨rbool HF5.out.symm, HEC.out⟩
                    · have hn2 : (n9 : Int) ≤ O.next := by omega
                      go_wp2
                      go_ret
                      exact ⟨rbool HF5.out.symm, HEC.out⟩
          · have HF0 : Hid (fb = false) := Lib.hid (by
              rw [HFB2.out, HAB.out, ← HN10.out]
              simp [hl])
            have q1 : ((n10 : Int) == cnt) = false := by simpa using hl
            have q2 : ((n10 : Int) != cnt) = true := by simpa using hl
            go_wp2
            go_ret
            exact ⟨rbool HF0.out.symm, HEC.out⟩
  · have HF0 : Hid (fb = false) := Lib.hid (by rw [HFB.out]; exact opB_none hkr)
    rw [sh_none hkr]
    have hbe : bs [] = ⟨#[]⟩ := rfl
    rw [hbe]
    go_wp2
    go_ret
    exact ⟨rbool HF0.out.symm, HE1.out⟩

end Go.Proofs.YtgohnlcgidmlfaaDoor
