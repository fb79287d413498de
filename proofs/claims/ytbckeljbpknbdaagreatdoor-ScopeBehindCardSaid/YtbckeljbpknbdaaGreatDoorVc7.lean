/- Fu -/
import Derived.Test.YtbckeljbpknbdaaGreatDoorVc4
set_option linter.unusedVariables false
set_option linter.unusedSimpArgs false
namespace Go.Proofs.YtbckeljbpknbdaaGreatDoor
open Go.RowKit
set_option maxRecDepth 100000 in
theorem Xvt (k p m : Int) (s : ByteArray) (A : Option Addr) (z c : Nat) (w : World) :
  Calls Tryz.prog 112 #[.agg #[.int .i64 k, .int .i64 p, .int .i64 m, .string s, .slice A z c]] w fun e w' => e = .returned (.bool (decide (k = 4 ∨ k = 5 ∨ k = 6))) ∧ Below w.heap.size w w' := by
 obtain ⟨X, hX⟩ : ∃ X : World, X = w.alloc (.cells #[.int .i64 k, .int .i64 p, .int .i64 m, .string s, .slice A z c] 152) := ⟨_, rfl⟩
 have hbX : Below w.heap.size w X := by rw [hX]; exact Xae _ _
 have hrow : X.heap[w.heap.size]? = some (.cells #[.int .i64 k, .int .i64 p, .int .i64 m, .string s, .slice A z c] 152 (0, 0)) := by rw [hX]; exact heap_alloc_new _ _
 obtain ⟨c0, -⟩ := row5 hrow
 have HB := lh hbX
 by_cases h4 : k = 4
 · subst h4
   rw [show decide ((4 : Int) = 4 ∨ (4 : Int) = 5 ∨ (4 : Int) = 6) = true from by decide]
   have HX := lh hX
   clear hrow hbX hX
   go_enter Tryz.func112, Tryz.ntmps112
   go_upto_region 1 with (fail)
   rw [← HX.out]
   go_wp2
   go_ret
   exact ⟨rfl, HB.out⟩
 · by_cases h5 : k = 5
   · subst h5
     rw [show decide ((5 : Int) = 4 ∨ (5 : Int) = 5 ∨ (5 : Int) = 6) = true from by decide]
     have HX := lh hX
     clear hrow hbX hX
     go_enter Tryz.func112, Tryz.ntmps112
     go_upto_region 1 with (fail)
     rw [← HX.out]
     go_wp2
     go_ret
     exact ⟨rfl, HB.out⟩
   · by_cases h6 : k = 6
     · subst h6
       rw [show decide ((6 : Int) = 4 ∨ (6 : Int) = 5 ∨ (6 : Int) = 6) = true from by decide]
       have HX := lh hX
       clear hrow hbX hX
       go_enter Tryz.func112, Tryz.ntmps112
       go_upto_region 1 with (fail)
       rw [← HX.out]
       go_wp2
       go_ret
       exact ⟨rfl, HB.out⟩
     · rw [show decide (k = 4 ∨ k = 5 ∨ k = 6) = false from decide_eq_false (fun h => h.elim h4 fun h => h.elim h5 h6)]
       have HX := lh hX
       clear hrow hbX hX
       go_enter Tryz.func112, Tryz.ntmps112
       go_upto_region 1 with (fail)
       rw [← HX.out]
       go_wp2
       go_ret
       exact ⟨by simp [h4, h5, h6], HB.out⟩
theorem own_head {w : World} {P : Nat → Prop} {base : Nat} {v : Value} {x : Ex} (h : Xaf w P base v [x]) : ∃ g c A z d, v = .slice (some ⟨g, 0, none⟩) 1 c ∧ w.cell? ⟨g, 0, none⟩ = some (.int .i64 x.kind) ∧ w.cell? ⟨g, 1, none⟩ = some (.int .i64 x.pl) ∧ w.cell? ⟨g, 2, none⟩ = some (.int .i64 x.num) ∧ w.cell? ⟨g, 3, none⟩ = some (.string (Xab x.name)) ∧ w.cell? ⟨g, 4, none⟩ = some (.slice A z d) := by
 obtain ⟨fs, hl, hown, hin⟩ := h
 obtain ⟨f, rfl⟩ : ∃ f, fs = [f] := by
  cases fs with
  | nil => cases hl
  | cons f fs => cases fs with
    | nil => exact ⟨f, rfl⟩
    | cons a b => simp at hl
 obtain ⟨A, d, hf, -⟩ := Xbb.slice (hin 0 (by simp) (by simp)).2
 have hf : f = .slice A x.args.length d := hf
 subst hf
 obtain ⟨g, cap, rfl, -, -⟩ := hown.form (by simp)
 have hc := fun i u (h : (exsV [x] [Value.slice A x.args.length d])[i]? = some u) => hown.cells (g := g) rfl i u h
 have h0 := hc 0 _ rfl
 have h1 := hc 1 _ rfl
 have h2 := hc 2 _ rfl
 have h3 := hc 3 _ rfl
 have h4 := hc 4 _ rfl
 rw [Xdo] at h0 h1 h2 h3 h4
 exact ⟨g, cap, A, _, d, rfl, h0, h1, h2, h3, h4⟩
theorem Xaz.drew {w Z : World} {B R L E : Nat} {D : Int} {kd U : Int} {nm ty : ByteArray} {ve vb vl : Value} {us : List Tok} (h : Xaz w B R L E D U kd nm ty vb vl Z ve us) : Xaz w B R L E D U kd nm ty vb vl Z.drew ve us := h.step h.rd.drew (Chg.refl _ Z).drew
set_option maxRecDepth 100000 in
set_option maxHeartbeats 4000000 in
theorem stmt_set {w : World} {B R L n : Nat} {t : Tok} {r : List Tok} (h : RdAt w B R L (t :: r)) (hB : B ≤ w.heap.size) (D : Int) (hD0 : 0 ≤ D) (hD1 : D ≤ 24)
  (hE : ∀ (w : World) (us : List Tok), RdAt w B R L us → B ≤ w.heap.size → Calls Tryz.prog 110 #[.pointer (some ⟨R, 0, none⟩), .int .i64 (D + 1)] w (Xaj (ExB w.heap.size) w B R L (Xah L n us))) (ht : t.text = [115, 101, 116])
  {T : Rd Sm} (hM : T = (Xah L n r).bind fun p r2 => if setB p = true then (Xal L [[61]] r2).bind fun _ r3 => (Xah L n r3).bind fun v r4 => endM L (.mk 2 t.pl [] [] [p, v] [] []) r4 else .bad (plc L r2) 20) : Calls Tryz.prog 84 #[.pointer (some ⟨R, 0, none⟩), .int .i64 D] w (Xaj (SmB w.heap.size) w B R L T) := by
 have HHR := lh h
 obtain ⟨X, hX⟩ : ∃ X : World, X = ((w.alloc (.cells #[.pointer (some ⟨R, 0, none⟩)] 52)).alloc (.cells #[.int .i64 D] 3)).alloc (.cells #[.int .i64 0, .int .i64 0, .string ⟨#[]⟩, .string ⟨#[]⟩, .slice none 0 0, .slice none 0 0, .slice none 0 0] 68) := ⟨_, rfl⟩
 have hbX : Below w.heap.size w X := by rw [hX]; exact ((Xae _ _).alloc (by simp) _).alloc (by simp; omega) _
 have hx0 : X.cell? ⟨w.heap.size, 0, none⟩ = some (.pointer (some ⟨R, 0, none⟩)) := by
  rw [hX]
  have h0 : (w.alloc (.cells #[.pointer (some ⟨R, 0, none⟩)] 52)).cell? ⟨w.heap.size, 0, none⟩ = some (.pointer (some ⟨R, 0, none⟩)) := by
   rw [cell_of_row _ _ 0 _ _ (0, 0) (heap_alloc_new w _)]; rfl
  exact Xaa (Xaa h0 _) _
 have HP := lh (Xan (h.below' hB hbX) (Nat.le_trans hB hbX.size) [[118, 97, 114], [115, 101, 116], [105, 102], [119, 104, 105, 108, 101], [108, 111, 99, 107], [117, 110, 108, 111, 99, 107], [115, 101, 110, 100], [114, 101, 99, 118], [111, 117, 116], [99, 97, 108, 108], [114, 101, 116, 117, 114, 110]] (by simp) (by decide))
 have HTK : Hid (Xal L [[118, 97, 114], [115, 101, 116], [105, 102], [119, 104, 105, 108, 101], [108, 111, 99, 107], [117, 110, 108, 111, 99, 107], [115, 101, 110, 100], [114, 101, 99, 118], [111, 117, 116], [99, 97, 108, 108], [114, 101, 116, 117, 114, 110]] (t :: r) = .ok t r) := lh (by rw [Xal, if_pos (by rw [ht]; decide)])
 rw [HTK.out, show X.heap.size = w.heap.size + 1 + 1 + 1 by rw [hX]; simp] at HP
 obtain ⟨K, hK⟩ : ∃ K : Int, K = (t.kind : Nat) := ⟨_, rfl⟩
 obtain ⟨S, hS⟩ : ∃ S, S = Xab t.text := ⟨_, rfl⟩
 obtain ⟨U, hU⟩ : ∃ U : Int, U = (t.pl : Nat) := ⟨_, rfl⟩
 have HTV : Hid (∀ v, TokV X t v → v = .agg #[.int .i64 K, .string S, .int .i64 U]) := lh fun v hv => by rw [hK, hS, hU]; exact hv.1
 have HX := lh hX
 have HB := lh hB
 have HRW := lh (show R < w.heap.size by have := h.lt; omega)
 have HU := lh hU
 have HE := lh hE
 have HM := lh hM
 have hwr : IntKind.i64.wrap (D + 1) = D + 1 := IntWalk.i64_in _ ⟨by omega, by omega⟩
 have hfT := Xdn
 have hst : S.toList = [115, 101, 116] := by rw [hS, Xad, ht]
 clear h hB hbX hU hX hE hS hK hM ht 
 go_enter Tryz.func84, Tryz.ntmps84
 go_wp2_with fail
 rw [← HX.out]
 refine HP.out.mono ?_
 rintro e w1 ⟨⟨v1, rfl, hv1⟩, hr, hc⟩
 obtain rfl := HTV.out _ hv1
 have HR1 := lh hr
 have HC1 := lh hc
 clear hr hc hx0 hv1 HP HTK HTV
 go_upto_region 4 with (fail)
 obtain ⟨Y, hY⟩ : ∃ Y : World, Y = (w1.alloc (.cells #[.int .i64 K, .string S, .int .i64 U] 76)).alloc (.cells #[.int .i64 0, .int .i64 U, .string ⟨#[]⟩, .string ⟨#[]⟩, .slice none 0 0, .slice none 0 0, .slice none 0 0] 68) := ⟨_, rfl⟩
 rw [← hY]
 obtain ⟨hf, ht0⟩ := Xdv HB.out HRW.out HX.out HR1.out HC1.out _ hY
 obtain ⟨k0, k1, k2, -⟩ := row3 ht0
 have HF0 := lh hf
 have HO0 : Hid (Xaf Y (fun b => (w1.heap.size + 1 + 1) ≤ b) (w1.heap.size + 1 + 1) (.slice none 0 0) []) := lh (Xaf.nil _ _ _)
 have hn0 : ¬ w.heap.size = w1.heap.size + 1 := by have := hf.lo; omega
 have hn0' : ¬ w1.heap.size + 1 = w.heap.size := fun e => hn0 e.symm
 have hn1 : ¬ w.heap.size = w1.heap.size := by have := hf.lo; omega
 have hn1' : ¬ w1.heap.size = w.heap.size := fun e => hn1 e.symm
 clear hf ht0 hY
 obtain ⟨q0, q1⟩ := HF0.out.cells
 obtain ⟨a0, a1, a2, a3, a4, a5, a6, z0, z1, z2, z3, z4, z5, z6⟩ := row7 HF0.out.row
 obtain ⟨b0, b1, b2, b3, b4, b5, b6, f0, f1, f2, f3, f4, f5, f6⟩ := row7 HF0.out.res
 go_wp2_with fail
 obtain ⟨w2, hW⟩ : ∃ Z : World, Z = (Y.setCell ⟨w1.heap.size + 1, 0, none⟩ (.int .i64 2)) := ⟨_, rfl⟩
 rw [← hW]
 have HF2 : Hid (Xaz w B R L (w1.heap.size + 1) D U 2 ⟨#[]⟩ ⟨#[]⟩ (.slice none 0 0) (.slice none 0 0) w2 (.slice none 0 0) _) := lh (by rw [hW]; exact (HF0.out.setK 2))
 have HWS2 : Hid (w2.heap.size = Y.heap.size) := lh (by rw [hW]; simp [World.setCell])
 have HO2 : Hid (Xaf w2 (fun b => (w1.heap.size + 1 + 1) ≤ b) (w1.heap.size + 1 + 1) (.slice none 0 0) []) := lh (by rw [hW]; exact (Xbr (fun b hb => hb) (by omega) HO0.out))
 clear hW q0 q1 a0 a1 a2 a3 a4 a5 a6 z0 z1 z2 z3 z4 z5 z6 b0 b1 b2 b3 b4 b5 b6 f0 f1 f2 f3 f4 f5 f6
 obtain ⟨q0, q1⟩ := HF2.out.cells
 obtain ⟨a0, a1, a2, a3, a4, a5, a6, z0, z1, z2, z3, z4, z5, z6⟩ := row7 HF2.out.row
 obtain ⟨b0, b1, b2, b3, b4, b5, b6, f0, f1, f2, f3, f4, f5, f6⟩ := row7 HF2.out.res
 refine (Xgp (Xaz.ok HF2.out.lo HF2.out.hB) HF2.out HO2.out (by simp) hD0 hD1 HE.out).mono ?_
 rintro e w3 hp
 cases hx : Xah L n r with
 | bad p c =>
   have HM := lh (HM.out.trans (Xam hx))
   rw [hx] at hp
   obtain ⟨rfl, hc⟩ := hp
   have HC3 := lh hc
   clear hx hc
   unfold Xag
   go_wp2
   rw [HM.out]
   exact ⟨rfl, rfl, HC3.out⟩
 | ok y1 u3 =>
   have HM := lh (HM.out.trans (Xap hx))
   rw [hx] at hp
   obtain ⟨rfl, A3, m3, c3, hf, ho⟩ := hp
   have HF3 := lh hf
   have HO3 := lh ho
   clear hx hf ho q0 q1 a0 a1 a2 a3 a4 a5 a6 z0 z1 z2 z3 z4 z5 z6 b0 b1 b2 b3 b4 b5 b6 f0 f1 f2 f3 f4 f5 f6
   obtain ⟨q0, q1⟩ := HF3.out.cells
   obtain ⟨a0, a1, a2, a3, a4, a5, a6, z0, z1, z2, z3, z4, z5, z6⟩ := row7 HF3.out.row
   obtain ⟨b0, b1, b2, b3, b4, b5, b6, f0, f1, f2, f3, f4, f5, f6⟩ := row7 HF3.out.res
   go_wp2_with fail
   obtain ⟨gx, cx, Ax, zx, dx, hvx, x0, x1, x2, x3, x4⟩ := own_head HO3.out
   simp only [Value.slice.injEq] at hvx
   obtain ⟨rfl, rfl, rfl⟩ := hvx
   obtain ⟨xk, hxk⟩ : ∃ x : Int, x = y1.kind := ⟨_, rfl⟩
   obtain ⟨xp, hxp⟩ : ∃ x : Int, x = y1.pl := ⟨_, rfl⟩
   obtain ⟨xm, hxm⟩ : ∃ x : Int, x = y1.num := ⟨_, rfl⟩
   obtain ⟨xs, hxs⟩ : ∃ x, x = Xab y1.name := ⟨_, rfl⟩
   rw [← hxk] at x0
   rw [← hxp] at x1
   rw [← hxm] at x2
   rw [← hxs] at x3
   have HXK := lh hxk
   clear hxk hxp hxm hxs
   have HNW : Hid (∀ W : World, Below w3.heap.size w3 W → (W.cell? ⟨w.heap.size, 0, none⟩ = some (.pointer (some ⟨R, 0, none⟩)) ∧ W.cell? ⟨w1.heap.size + 1, 4, none⟩ = some (.slice (some ⟨gx, 0, none⟩) 1 c3) ∧ W.cell? ⟨gx, 0, none⟩ = some (.int .i64 xk) ∧ W.cell? ⟨gx, 1, none⟩ = some (.int .i64 xp) ∧ W.cell? ⟨gx, 2, none⟩ = some (.int .i64 xm) ∧ W.cell? ⟨gx, 3, none⟩ = some (.string xs) ∧ W.cell? ⟨gx, 4, none⟩ = some (.slice Ax zx dx))) := lh fun W hb => ⟨hb.cell (World.block_lt_of_cell? _ _ q0) |>.trans q0, hb.cell (World.block_lt_of_cell? _ _ a4) |>.trans a4, hb.cell (World.block_lt_of_cell? _ _ x0) |>.trans x0, hb.cell (World.block_lt_of_cell? _ _ x1) |>.trans x1, hb.cell (World.block_lt_of_cell? _ _ x2) |>.trans x2, hb.cell (World.block_lt_of_cell? _ _ x3) |>.trans x3, hb.cell (World.block_lt_of_cell? _ _ x4) |>.trans x4⟩
   have hS0 := HNW.out w3.drew ⟨rfl, rfl, rfl, Nat.le_refl _, fun _ _ => rfl⟩
   refine wp_region_held_drew (S := fun W => W.cell? ⟨w.heap.size, 0, none⟩ = some (.pointer (some ⟨R, 0, none⟩)) ∧ W.cell? ⟨w1.heap.size + 1, 4, none⟩ = some (.slice (some ⟨gx, 0, none⟩) 1 c3) ∧ W.cell? ⟨gx, 0, none⟩ = some (.int .i64 xk) ∧ W.cell? ⟨gx, 1, none⟩ = some (.int .i64 xp) ∧ W.cell? ⟨gx, 2, none⟩ = some (.int .i64 xm) ∧ W.cell? ⟨gx, 3, none⟩ = some (.string xs) ∧ W.cell? ⟨gx, 4, none⟩ = some (.slice Ax zx dx)) (by kernel_rfl) hS0 (fun hHeld => ?_)
   clear hS0
   refine wpAnyH_take (i := 0) (oi := _) (v := .pointer (some ⟨R, 0, none⟩)) rfl (by kernel_rfl) (by kernel_rfl) (by kernel_rfl) (fun _ _ _ h => h) (Or.inl ⟨by rfl, fun W hS => ?_⟩) hHeld ?_
   · obtain ⟨s0, s1, s2, s3, s4, s5, s6⟩ := hS
     go_simp
   simp only [Act.put]
   refine wpAnyH_take (i := 1) (oi := _) (v := .pointer (some ⟨w1.heap.size + 1, 4, none⟩)) rfl (by kernel_rfl) (by kernel_rfl) (by kernel_rfl) (fun _ _ _ h => h) (Or.inl ⟨by rfl, fun W hS => ?_⟩) hHeld ?_
   · obtain ⟨s0, s1, s2, s3, s4, s5, s6⟩ := hS
     go_simp
   simp only [Act.put]
   refine wpAnyH_take (i := 2) (oi := _) (v := .slice (some ⟨gx, 0, none⟩) 1 c3) rfl (by kernel_rfl) (by kernel_rfl) (by kernel_rfl) (fun _ _ _ h => h) (Or.inl ⟨by rfl, fun W hS => ?_⟩) hHeld ?_
   · obtain ⟨s0, s1, s2, s3, s4, s5, s6⟩ := hS
     go_simp
   simp only [Act.put]
   refine wpAnyH_take (i := 3) (oi := _) (v := .pointer (some ⟨gx, 0, none⟩)) rfl (by kernel_rfl) (by kernel_rfl) (by kernel_rfl) (fun _ _ _ h => h) (Or.inl ⟨by rfl, fun W hS => ?_⟩) hHeld ?_
   · obtain ⟨s0, s1, s2, s3, s4, s5, s6⟩ := hS
     go_simp
   simp only [Act.put]
   refine wpAnyH_take (i := 4) (oi := _) (v := .agg #[.int .i64 xk, .int .i64 xp, .int .i64 xm, .string xs, .slice Ax zx dx]) rfl (by kernel_rfl) (by kernel_rfl) (by kernel_rfl) (fun _ _ _ h => h) (Or.inl ⟨by rfl, fun W hS => ?_⟩) hHeld ?_
   · obtain ⟨s0, s1, s2, s3, s4, s5, s6⟩ := hS
     go_simp
   simp only [Act.put]
   refine wpAnyH_ready (rs := [5]) (by kernel_rfl) (by simp) ?_
   refine AllReadyH.cons rfl (fun K hK => ?_) AllReadyH.nil
   go_simp
   refine (Xvt xk xp xm xs Ax zx dx w3.drew).mono ?_
   rintro e w4 ⟨rfl, hb⟩
   have hb2 : Below w3.heap.size w3 w4 := ⟨hb.os, hb.tape, hb.output, hb.size, hb.block⟩
   have HS4 := lh (HNW.out w4 hb2)
   have HF4 := lh (HF3.out.step (HF3.out.rd.below' HF3.out.size hb2) (Chg.of_below hb2))
   have HO4 := lh (Xaq (fun b hb e => by have := HF3.out.rlo; omega) HF3.out.rlo HO3.out (Chg.of_below hb2))
   clear hb hb2 hHeld x0 x1 x2 x3 x4 q0 q1 a0 a1 a2 a3 a4 a5 a6 z0 z1 z2 z3 z4 z5 z6 b0 b1 b2 b3 b4 b5 b6 f0 f1 f2 f3 f4 f5 f6
   go_wp2_with fail
   refine hK.out _ _ HS4.out (fun hHeld => ?_)
   clear hK K
   refine wpAnyH_ready (rs := [6]) (by kernel_rfl) (by simp) ?_
   refine AllReadyH.cons rfl (fun K hK => ?_) AllReadyH.nil
   go_simp
   by_cases hpl : setB y1 = true
   ·
    have hdec : (decide (xk = 4) || (decide (xk = 5) || decide (xk = 6))) = true := by rw [HXK.out]; simpa [setB] using hpl
    have HM := lh (HM.out.trans (if_pos hpl))
    rw [hdec]
    clear hpl hdec
    refine (Xcb _ _ _).mono ?_
    rintro e wm ⟨rfl, rfl⟩
    go_wp2_with fail
    refine hK.out _ _ HS4.out (fun hHeld => ?_)
    clear hK K
    refine wpAnyH_done (by kernel_rfl) ?_ _
    clear hHeld
    obtain ⟨q0, q1⟩ := HF4.out.cells
    obtain ⟨a0, a1, a2, a3, a4, a5, a6, z0, z1, z2, z3, z4, z5, z6⟩ := row7 HF4.out.row
    obtain ⟨b0, b1, b2, b3, b4, b5, b6, f0, f1, f2, f3, f4, f5, f6⟩ := row7 HF4.out.res
    go_wp2_with fail
    refine (Xan HF4.out.rd HF4.out.size [[61]] (by simp) (by decide)).mono ?_
    rintro e w5 hp
    cases hx : Xal L [[61]] u3 with
    | bad p c =>
      have HM := lh (HM.out.trans (Xam hx))
      rw [hx] at hp
      obtain ⟨rfl, hc⟩ := hp
      have HC5 := lh (HF4.out.chg.up hc)
      clear hx hc
      unfold Xag
      go_wp2
      rw [HM.out]
      exact ⟨rfl, rfl, HC5.out⟩
    | ok xt u5 =>
      have HM := lh (HM.out.trans (Xap hx))
      rw [hx] at hp
      obtain ⟨⟨v5, rfl, hv⟩, hr, hc⟩ := hp
      have HF5 := lh (HF4.out.step hr hc)
      have HO5 := lh (Xaq (fun b hb e => by have := HF4.out.rlo; omega) HF4.out.rlo HO4.out hc)
      clear hx hr hc q0 q1 a0 a1 a2 a3 a4 a5 a6 z0 z1 z2 z3 z4 z5 z6 b0 b1 b2 b3 b4 b5 b6 f0 f1 f2 f3 f4 f5 f6
      obtain ⟨q0, q1⟩ := HF5.out.cells
      obtain ⟨a0, a1, a2, a3, a4, a5, a6, z0, z1, z2, z3, z4, z5, z6⟩ := row7 HF5.out.row
      obtain ⟨b0, b1, b2, b3, b4, b5, b6, f0, f1, f2, f3, f4, f5, f6⟩ := row7 HF5.out.res
      clear hv
      go_wp2_with fail
      refine (Xgp (Xaz.ok HF5.out.lo HF5.out.hB) HF5.out HO5.out (by simp) hD0 hD1 HE.out).mono ?_
      rintro e w6 hp
      cases hx : Xah L n u5 with
      | bad p c =>
        have HM := lh (HM.out.trans (Xam hx))
        rw [hx] at hp
        obtain ⟨rfl, hc⟩ := hp
        have HC6 := lh hc
        clear hx hc
        unfold Xag
        go_wp2
        rw [HM.out]
        exact ⟨rfl, rfl, HC6.out⟩
      | ok y2 u6 =>
        have HM := lh (HM.out.trans (Xap hx))
        rw [hx] at hp
        obtain ⟨rfl, A6, m6, c6, hf, ho⟩ := hp
        have HF6 := lh hf
        have HO6 := lh ho
        clear hx hf ho q0 q1 a0 a1 a2 a3 a4 a5 a6 z0 z1 z2 z3 z4 z5 z6 b0 b1 b2 b3 b4 b5 b6 f0 f1 f2 f3 f4 f5 f6
        obtain ⟨q0, q1⟩ := HF6.out.cells
        obtain ⟨a0, a1, a2, a3, a4, a5, a6, z0, z1, z2, z3, z4, z5, z6⟩ := row7 HF6.out.row
        obtain ⟨b0, b1, b2, b3, b4, b5, b6, f0, f1, f2, f3, f4, f5, f6⟩ := row7 HF6.out.res
        go_wp2_with fail
        refine (Xan HF6.out.rd HF6.out.size [[59]] (by simp) (by decide)).mono ?_
        rintro e w7 hp
        cases hx : Xal L [[59]] u6 with
        | bad p c =>
          have HM := lh (HM.out.trans (Xbc hx))
          rw [hx] at hp
          obtain ⟨rfl, hc⟩ := hp
          have HC7 := lh (HF6.out.chg.up hc)
          clear hx hc
          unfold Xag
          go_wp2
          rw [HM.out]
          exact ⟨rfl, rfl, HC7.out⟩
        | ok xq u7 =>
          have HM := lh (HM.out.trans (Xbi hx))
          rw [hx] at hp
          obtain ⟨⟨v7, rfl, hv⟩, hr, hc⟩ := hp
          have HF7 := lh (HF6.out.step hr hc)
          have HO7 := lh (Xaq (fun b hb e => by have := HF6.out.rlo; omega) HF6.out.rlo HO6.out hc)
          clear hx hr hc q0 q1 a0 a1 a2 a3 a4 a5 a6 z0 z1 z2 z3 z4 z5 z6 b0 b1 b2 b3 b4 b5 b6 f0 f1 f2 f3 f4 f5 f6
          obtain ⟨q0, q1⟩ := HF7.out.cells
          obtain ⟨a0, a1, a2, a3, a4, a5, a6, z0, z1, z2, z3, z4, z5, z6⟩ := row7 HF7.out.row
          obtain ⟨b0, b1, b2, b3, b4, b5, b6, f0, f1, f2, f3, f4, f5, f6⟩ := row7 HF7.out.res
          clear hv
          go_upto_region 52 with (fail)
          obtain ⟨Z, hZ⟩ : ∃ Z : World, Z = w7 := ⟨_, rfl⟩
          have HFIN := lh (HF7.out.done (Xhf HO7.out) (Xay.nil _ _) (Xay.nil _ _) (x := .mk 2 t.pl [] [] [y1, y2] [] []) rfl HU.out rfl rfl (Nat.zero_le _) (Nat.zero_le _))
          clear hZ
          go_wp2
          refine bodyPost_ret (v := .agg #[.int .i64 2, .int .i64 U, .string ⟨#[]⟩, .string ⟨#[]⟩, (.slice A6 m6 c6), (.slice none 0 0), (.slice none 0 0)]) ?_ rfl ?_
          · clear HFIN
            simp [results, Tryz.results84, go_sem, b0, b1, b2, b3, b4, b5, b6]
          · rw [HM.out]
            exact HFIN.out
   ·
    have hdec : (decide (xk = 4) || (decide (xk = 5) || decide (xk = 6))) = false := by
     rw [HXK.out]
     simpa [setB] using hpl
    have HM := lh (HM.out.trans (if_neg hpl))
    rw [hdec]
    clear hpl hdec
    refine (Xel HF4.out.rd 20).mono ?_
    rintro e wm ⟨rfl, hb⟩
    have HC := lh (HF4.out.chg.up (Chg.of_below hb))
    clear hb hHeld
    unfold Xag
    go_wp2
    rw [HM.out]
    exact ⟨rfl, rfl, HC.out⟩
end Go.Proofs.YtbckeljbpknbdaaGreatDoor
