/- Wa Wb Wc We Wf Wg -/
import Derived.Test.YtodociiaobjfgaaGreatDoorVb1
import Derived.Test.YtodociiaobjfgaaGreatDoorVb2
set_option linter.unusedVariables false
set_option linter.unusedSimpArgs false
namespace Go.Proofs.YtodociiaobjfgaaGreatDoor
open Go.RowKit
section
def Xao (w0 : World) (B : Nat) (ss : List Sm) (V : Value) : Prop :=
 ∀ (w : World) (Bc Ba : Nat) (u : Value) (T : List (List UInt8)) (d : Int), Below B w0 w → B ≤ w.heap.size → Xap w Bc Ba B u T → 0 ≤ d → d ≤ 100 →
  Calls Tryz.prog 45 #[penV Bc Ba, V, .int .i64 d] w (Xal w Bc Ba B u (adv T (penB ss d)))
structure StFr (w : World) (g Bc Ba : Nat) (k p : Int) (nm ty : List UInt8) (V bv ev : Value) (d : Int) : Prop where
 put : w.heap[g]? = some (.cells #[penV Bc Ba] 49 (0, 0))
 sm : Xbp w (g + 1) k p (Xaa nm) (Xaa ty) V bv ev
 dp : w.heap[g + 1 + 1]? = some (.cells #[.int .i64 d] 3 (0, 0))
def InSt (g b : Nat) : Prop := b = g ∨ b = g + 1 ∨ b = g + 1 + 1
section
variable {w w' w1 w2 : World} {g Bc Ba B : Nat} {k p : Int} {nm ty : List UInt8} {V bv ev u v1 : Value} {d : Int} {T T1 : List (List UInt8)}
theorem StFr.pc (h : StFr w g Bc Ba k p nm ty V bv ev d) : w.cell? ⟨g, 0, none⟩ = some (.func (.func 27) #[] #[.pointer (some ⟨Bc, 0, none⟩), .pointer (some ⟨Ba, 0, none⟩)]) := by
 rw [cell_of_row w g 0 _ _ (0, 0) h.put]; rfl
theorem StFr.dc (h : StFr w g Bc Ba k p nm ty V bv ev d) : w.cell? ⟨g + 1 + 1, 0, none⟩ = some (.int .i64 d) := by
 rw [cell_of_row w (g + 1 + 1) 0 _ _ (0, 0) h.dp]; rfl
theorem StFr.apart (h : StFr w g Bc Ba k p nm ty V bv ev d) (hp : Xap w Bc Ba B u T) (h1 : Bc < g) (h2 : Ba < g) {b : Nat} (hb : InSt g b) : ¬ Mine Bc Ba u b := by
 rintro (e | e | e)
 · rcases hb with hb | hb | hb <;> omega
 · rcases hb with hb | hb | hb <;> omega
 · obtain ⟨_, cur, hg⟩ := hp.own.blk e
   rcases hb with rfl | rfl | rfl
   · rw [h.put] at hg; simp at hg
   · have := h.sm; unfold Xbp at this; rw [this] at hg; simp at hg
   · rw [h.dp] at hg; simp at hg
theorem StFr.lt (h : StFr w g Bc Ba k p nm ty V bv ev d) {b : Nat} (hb : InSt g b) : b < w.heap.size := by
 rcases hb with rfl | rfl | rfl
 · exact Xab h.put
 · exact Xab h.sm
 · exact Xab h.dp
theorem StFr.keep (h : StFr w g Bc Ba k p nm ty V bv ev d) (hk : ∀ b, InSt g b → w'.heap[b]? = w.heap[b]?) : StFr w' g Bc Ba k p nm ty V bv ev d :=
 ⟨(hk _ (.inl rfl)).trans h.put, (hk _ (.inr (.inl rfl))).trans h.sm, (hk _ (.inr (.inr rfl))).trans h.dp⟩
theorem StFr.below (h : StFr w g Bc Ba k p nm ty V bv ev d) (hb : Below w.heap.size w w') : StFr w' g Bc Ba k p nm ty V bv ev d := h.keep fun b hb' => hb.block b (h.lt hb')
theorem StFr.drew (h : StFr w g Bc Ba k p nm ty V bv ev d) : StFr w.drew g Bc Ba k p nm ty V bv ev d := h.keep fun _ _ => rfl
theorem StFr.went (h : StFr w g Bc Ba k p nm ty V bv ev d) (hp : Xap w Bc Ba B u T) (h1 : Bc < g) (h2 : Ba < g) (hw : Went w Bc Ba B u w1 v1 T1) : StFr w1 g Bc Ba k p nm ty V bv ev d :=
 h.keep fun b hb => hw.2.2.block b (h.lt hb) (h.apart hp h1 h2 hb)
theorem StFr.set2 (h : StFr w g Bc Ba k p nm ty V bv ev d) (t : List UInt8) : StFr (w.setCell ⟨g + 1, 2, none⟩ (.string (Xaa t))) g Bc Ba k p t ty V bv ev d := by
 refine ⟨(Below.heap_setCell _ _ _ _ (show g ≠ g + 1 by omega)).trans h.put, ?_, (Below.heap_setCell _ _ _ _ (show g + 1 + 1 ≠ g + 1 by omega)).trans h.dp⟩
 have := h.sm
 unfold Xbp at this ⊢
 simp [World.setCell, Array.getElem?_modify, this]
theorem StFr.set3 (h : StFr w g Bc Ba k p nm ty V bv ev d) (t : List UInt8) : StFr (w.setCell ⟨g + 1, 3, none⟩ (.string (Xaa t))) g Bc Ba k p nm t V bv ev d := by
 refine ⟨(Below.heap_setCell _ _ _ _ (show g ≠ g + 1 by omega)).trans h.put, ?_, (Below.heap_setCell _ _ _ _ (show g + 1 + 1 ≠ g + 1 by omega)).trans h.dp⟩
 have := h.sm
 unfold Xbp at this ⊢
 simp [World.setCell, Array.getElem?_modify, this]
theorem StFr.set4 (h : StFr w g Bc Ba k p nm ty V bv ev d) (X : Value) : StFr (w.setCell ⟨g + 1, 4, none⟩ X) g Bc Ba k p nm ty X bv ev d := by
 refine ⟨(Below.heap_setCell _ _ _ _ (show g ≠ g + 1 by omega)).trans h.put, ?_, (Below.heap_setCell _ _ _ _ (show g + 1 + 1 ≠ g + 1 by omega)).trans h.dp⟩
 have := h.sm
 unfold Xbp at this ⊢
 simp [World.setCell, Array.getElem?_modify, this]
theorem StFr.set5 (h : StFr w g Bc Ba k p nm ty V bv ev d) (X : Value) : StFr (w.setCell ⟨g + 1, 5, none⟩ X) g Bc Ba k p nm ty V X ev d := by
 refine ⟨(Below.heap_setCell _ _ _ _ (show g ≠ g + 1 by omega)).trans h.put, ?_, (Below.heap_setCell _ _ _ _ (show g + 1 + 1 ≠ g + 1 by omega)).trans h.dp⟩
 have := h.sm
 unfold Xbp at this ⊢
 simp [World.setCell, Array.getElem?_modify, this]
theorem StFr.set6 (h : StFr w g Bc Ba k p nm ty V bv ev d) (X : Value) : StFr (w.setCell ⟨g + 1, 6, none⟩ X) g Bc Ba k p nm ty V bv X d := by
 refine ⟨(Below.heap_setCell _ _ _ _ (show g ≠ g + 1 by omega)).trans h.put, ?_, (Below.heap_setCell _ _ _ _ (show g + 1 + 1 ≠ g + 1 by omega)).trans h.dp⟩
 have := h.sm
 unfold Xbp at this ⊢
 simp [World.setCell, Array.getElem?_modify, this]
end
def Xje (w0 w : World) (g Bc Ba B : Nat) (u : Value) (k p : Int) (nm ty : List UInt8) (bv ev : Value) (d : Int) (rest : List Ex) (R : Ts) (e : Ending) (w' : World) : Prop := match R with
 | none => e = boom ∧ Chg (fun b => Mine Bc Ba u b ∨ b = g + 1) w w'
 | some T' => e = .returned (.tuple #[]) ∧ ∃ u' V', Xap w' Bc Ba B u' T' ∧ (∀ b, u'.ownBlock = some b → u.ownBlock = some b ∨ w.heap.size ≤ b) ∧ Chg (fun b => Mine Bc Ba u b ∨ b = g + 1) w w' ∧
    StFr w' g Bc Ba k p nm ty V' bv ev d ∧ Xbd w0 B rest V'
theorem Xwr {w0 w : World} {g Bc Ba B : Nat} {u : Value} {T : List (List UInt8)} {k p : Int} {nm ty : List UInt8} {V bv ev : Value} {d : Int} {e : Ex} {es : List Ex} (hb : Below B w0 w) (hB : B ≤ g) (hg1 : Bc < g) (hg2 : Ba < g) (hp : Xap w Bc Ba B u T)
  (hf : StFr w g Bc Ba k p nm ty V bv ev d) (hr : Xbd w0 B (e :: es) V) (hd0 : 0 ≤ d) (hd : d ≤ 50) (ts : List (List UInt8)) (tv : Value) (hts : Xed w (fun b => Mine Bc Ba u b ∨ b = g + 1) tv ts) :
  Calls Tryz.prog 69 #[tv, .pointer (some ⟨g, 0, none⟩), .pointer (some ⟨g + 1, 0, none⟩), .pointer (some ⟨g + 1 + 1, 0, none⟩)] w (Xje w0 w g Bc Ba B u k p nm ty bv ev d es (adv T (cat (penE e (d + 1) 0) (some ts)))) := by
 obtain ⟨A, c, rfl, hc, hM, hA⟩ := hr
 obtain ⟨b, off, A5, n5, c5, rfl, hbB, hnm, r0, r1, r2, r3, r4, hWr⟩ := hA 0 (by simp)
 have hrt := hA
 have q0 := cell_of_row w g 0 _ _ (0, 0) hf.put
 have q1 := cell_of_row w (g + 1 + 1) 0 _ _ (0, 0) hf.dp
 have q4 := hf.sm.c4
 have z4 := hf.sm.fr 4
 have up : ∀ {i : Nat} {v : Value}, w0.cell? ⟨b, i, none⟩ = some v → w.cell? ⟨b, i, none⟩ = some v := fun h => (hb.cell hbB).trans h
 have r0 := up r0
 have r1 := up r1
 have r2 := up r2
 have r3 := up r3
 have r4 := up r4
 rw [Nat.zero_mul, Nat.add_zero] at r0 r1 r2 r3 r4
 simp only [List.getElem_cons_zero] at r0 r1 r2 r3 r4 hWr hnm
 have htf := Xfo ⟨g + 1, 4, none⟩ b off es.length c w.drew _ _ _ _ _ _ _ q4 z4 hc r0 r1 r2 r3 r4
 unfold penV at q0
 simp at q0 q1
 have hwr : IntKind.i64.wrap (d + 1) = d + 1 := IntWalk.i64_in _ ⟨by omega, by omega⟩
 have HTF := lh htf
 have HWR := lh hWr
 clear htf hWr r0 r1 r2 r3 r4 q4 z4 hA
 go_enter Tryz.func69, Tryz.ntmps69
 go_wp2_with fail
 refine wp_region_held_drew (S := fun w' => w'.cell? ⟨g, 0, none⟩ = some (.func (.func 27) #[] #[.pointer (some ⟨Bc, 0, none⟩), .pointer (some ⟨Ba, 0, none⟩)]) ∧ w'.cell? ⟨g + 1 + 1, 0, none⟩ = some (.int .i64 d)) (by kernel_rfl) ⟨q0, q1⟩ (fun hHeld => ?_)
 refine wpAnyH_take (i := 0) (oi := _) (v := .func (.func 27) #[] #[.pointer (some ⟨Bc, 0, none⟩), .pointer (some ⟨Ba, 0, none⟩)]) rfl (by kernel_rfl) (by kernel_rfl) (by kernel_rfl) (fun _ _ _ h => h) (Or.inl ⟨by rfl, fun w hS => ?_⟩) hHeld ?_
 · obtain ⟨h1, h2⟩ := hS
   go_simp
 simp only [Act.put]
 refine wpAnyH_take (i := 1) (oi := _) (v := .pointer (some ⟨g + 1, 4, none⟩)) rfl (by kernel_rfl) (by kernel_rfl) (by kernel_rfl) (fun _ _ _ h => h) (Or.inl ⟨by rfl, fun w hS => ?_⟩) hHeld ?_
 · go_simp
 simp only [Act.put]
 refine wpAnyH_take (i := 3) (oi := _) (v := .int .i64 d) rfl (by kernel_rfl) (by kernel_rfl) (by kernel_rfl) (fun _ _ _ h => h) (Or.inl ⟨by rfl, fun w hS => ?_⟩) hHeld ?_
 · obtain ⟨h1, h2⟩ := hS
   go_simp
 simp only [Act.put]
 refine wpAnyH_take (i := 4) (oi := _) (v := .int .i64 (d + 1)) rfl (by kernel_rfl) (by kernel_rfl) (by kernel_rfl) (fun _ _ _ h => h) (Or.inl ⟨by rfl, fun w hS => ?_⟩) hHeld ?_
 · go_simp
 simp only [Act.put]
 refine wpAnyH_ready (rs := [2]) (by kernel_rfl) (by simp) ?_
 refine AllReadyH.cons rfl (fun K hK => ?_) AllReadyH.nil
 go_simp
 refine HTF.out.mono ?_
 rintro e1 w1 ⟨rfl, wm, off', hbm, hbm2, ho⟩
 have hdr : Below w.heap.size w w.drew := Below.drew (Below.refl _ w)
 have hbm : Below w.heap.size w wm := hdr.trans hbm
 have hbm2 : Below w.heap.size (wm.setCell ⟨g + 1, 4, none⟩ (.slice (some ⟨b, off', none⟩) es.length (c - 1))) w1 := hbm2
 have hnm1 := hf.apart hp hg1 hg2 (b := g + 1) (.inr (.inl rfl))
 have hf1 : StFr w1 g Bc Ba k p nm ty (.slice (some ⟨b, off', none⟩) es.length (c - 1)) bv ev d := ((hf.below hbm).set4 _).keep fun x hx => hbm2.block x (hf.lt hx)
 have hp1 : Xap w1 Bc Ba B u T := hp.put_ (p := ⟨g + 1, 4, none⟩) hbm hnm1 hbm2
 have hch1 : Chg (fun b => Mine Bc Ba u b ∨ b = g + 1) w w1 := Chg.put_ (p := ⟨g + 1, 4, none⟩) hbm (.inr rfl) hbm2
 have hBw : B ≤ w.heap.size := Nat.le_trans hB (Nat.le_of_lt (hf.lt (.inl rfl)))
 have hmB : ∀ x, (Mine Bc Ba u x ∨ x = g + 1) → B ≤ x := fun x hx => by
  rcases hx with hx | hx
  · exact (hp.mine hx).1
  · omega
 have hb1 : Below B w0 w1 := hb.trans (hch1.below hBw hmB)
 have hr1 := Xbd.tail (off' := off') (c := c) ⟨_, _, rfl, hc, hM, hrt⟩ ho
 have k0 := cell_of_row w1 g 0 _ _ (0, 0) hf1.put
 have k1 := cell_of_row w1 (g + 1 + 1) 0 _ _ (0, 0) hf1.dp
 unfold penV at k0
 simp at k0 k1
 have HF1 := lh hf1
 have HP1 := lh hp1
 have HC1 := lh hch1
 have HR1 := lh hr1
 have hcall := HWR.out w1 Bc Ba u T (d + 1) 0 hb1 (Nat.le_trans hBw hch1.size) hp1 (by omega) (by omega) (by omega) (by omega)
 have hs1 : Xed w1 (fun b => Mine Bc Ba u b ∨ b = g + 1) tv ts := by
  obtain ⟨A, c, h1, h2, h3, h4⟩ := hts
  exact ⟨A, c, h1, h2, h3, fun k hk => let ⟨b, off, x1, x2, x3, x4⟩ := h4 k hk; ⟨b, off, x1, x2, x3, hch1.cell x4 x2⟩⟩
 have HS1 := lh hs1
 have HCALL := lh hcall
 clear hf1 hp1 hch1 hr1 hcall hs1 hrt hts hbm hbm2 hdr
 go_wp2_with fail
 refine hK.out _ _ ⟨k0, k1⟩ (fun hHeld => ?_)
 clear hK K
 refine wpAnyH_ready (rs := [5]) (by kernel_rfl) (by simp) ?_
 refine AllReadyH.cons rfl (fun K hK => ?_) AllReadyH.nil
 go_simp
 refine HCALL.out.mono ?_
 rintro e2 w2 hpost
 cases hR : adv T (penE e (d + 1) 0) with
 | none =>
   rw [hR] at hpost
   obtain ⟨rfl, hch2⟩ := hpost
   have HR := lh (Xad hR (some ts))
   have hch : Chg (fun b => Mine Bc Ba u b ∨ b = g + 1) w w2 := HC1.out.trans hch2 (fun x _ hx => .inl hx)
   have HCH := lh hch
   clear hR hch2 hch
   unfold boom
   go_wp2
   refine ⟨rfl, ?_⟩
   rw [HR.out]
   exact ⟨rfl, HCH.out⟩
 | some T2 =>
   rw [hR] at hpost
   obtain ⟨rfl, u2, hwent⟩ := hpost
   have HEQ := lh (Xae hR (some ts))
   have hf2 := HF1.out.went HP1.out hg1 hg2 hwent
   have hs2 := HS1.out.went hwent
   have k02 := cell_of_row w2 g 0 _ _ (0, 0) hf2.put
   have k12 := cell_of_row w2 (g + 1 + 1) 0 _ _ (0, 0) hf2.dp
   unfold penV at k02
   simp at k02 k12
   have hB2 : B ≤ w2.heap.size := Nat.le_trans (Nat.le_trans hBw HC1.out.size) hwent.2.2.size
   have hput := Xmd hwent.1 hB2 ts tv hs2
   have HPUT := lh hput
   have HW2 := lh hwent
   have HF2 := lh hf2
   clear hwent hf2 hs2 hput hR k0 k1
   go_wp2_with fail
   refine hK.out _ _ ⟨k02, k12⟩ (fun hHeld => ?_)
   clear hK K
   refine wpAnyH_done (by kernel_rfl) ?_ _
   go_wp2_with fail
   refine HPUT.out.mono ?_
   rintro e3 w3 hpost
   cases hR : adv T2 (some ts) with
   | none =>
     rw [hR] at hpost
     obtain ⟨rfl, hch3⟩ := hpost
     have HR := lh (HEQ.out.trans hR)
     have hch : Chg (fun b => Mine Bc Ba u b ∨ b = g + 1) w w3 := HC1.out.trans (HW2.out.fell hch3) (fun x _ hx => .inl hx)
     have HCH := lh hch
     clear hR hch3 hch
     unfold boom
     go_wp2
     refine ⟨rfl, ?_⟩
     rw [HR.out]
     exact ⟨rfl, HCH.out⟩
   | some T3 =>
     rw [hR] at hpost
     obtain ⟨rfl, u3, hwent⟩ := hpost
     have HR := lh (HEQ.out.trans hR)
     have hf3 := HF2.out.went HW2.out.1 hg1 hg2 hwent
     have hw13 := HW2.out.trans hwent
     have HW13 := lh hw13
     have HF3 := lh hf3
     have HSZ := lh HC1.out.size
     clear hwent hf3 hw13 hR
     go_wp2
     go_end0
     rw [HR.out]
     refine ⟨rfl, u3, _, HW13.out.1, fun x hx => ?_, HC1.out.trans HW13.out.2.2 (fun x _ hx => .inl hx), HF3.out, HR1.out⟩
     rcases HW13.out.2.1 x hx with h | h
     · exact .inl h
     · exact .inr (Nat.le_trans HSZ.out h)
theorem ste_no {w0 w : World} {g Bc Ba B : Nat} {u : Value} {T : List (List UInt8)} {k p : Int} {nm ty : List UInt8} {V bv ev : Value} {d : Int} (hb : Below B w0 w) (hB : B ≤ g) (hg1 : Bc < g) (hg2 : Ba < g) (hp : Xap w Bc Ba B u T)
  (hf : StFr w g Bc Ba k p nm ty V bv ev d) (hr : Xbd w0 B [] V) (hd0 : 0 ≤ d) (hd : d ≤ 50) (ts : List (List UInt8)) (tv : Value) (hts : Xed w (fun b => Mine Bc Ba u b ∨ b = g + 1) tv ts) :
  Calls Tryz.prog 69 #[tv, .pointer (some ⟨g, 0, none⟩), .pointer (some ⟨g + 1, 0, none⟩), .pointer (some ⟨g + 1 + 1, 0, none⟩)] w (Xje w0 w g Bc Ba B u k p nm ty bv ev d [] none) := by
 obtain ⟨A, c, rfl, hc, hM, hA⟩ := hr
 have q0 := cell_of_row w g 0 _ _ (0, 0) hf.put
 have q1 := cell_of_row w (g + 1 + 1) 0 _ _ (0, 0) hf.dp
 have q4 := hf.sm.c4
 have htf := Xgh ⟨g + 1, 4, none⟩ A c w.drew q4
 unfold penV at q0
 simp at q0 q1
 have hwr : IntKind.i64.wrap (d + 1) = d + 1 := IntWalk.i64_in _ ⟨by omega, by omega⟩
 have HTF := lh htf
 clear htf q4
 go_enter Tryz.func69, Tryz.ntmps69
 go_wp2_with fail
 refine wp_region_held_drew (S := fun w' => w'.cell? ⟨g, 0, none⟩ = some (.func (.func 27) #[] #[.pointer (some ⟨Bc, 0, none⟩), .pointer (some ⟨Ba, 0, none⟩)]) ∧ w'.cell? ⟨g + 1 + 1, 0, none⟩ = some (.int .i64 d)) (by kernel_rfl) ⟨q0, q1⟩ (fun hHeld => ?_)
 refine wpAnyH_take (i := 0) (oi := _) (v := .func (.func 27) #[] #[.pointer (some ⟨Bc, 0, none⟩), .pointer (some ⟨Ba, 0, none⟩)]) rfl (by kernel_rfl) (by kernel_rfl) (by kernel_rfl) (fun _ _ _ h => h) (Or.inl ⟨by rfl, fun w hS => ?_⟩) hHeld ?_
 · obtain ⟨h1, h2⟩ := hS
   go_simp
 simp only [Act.put]
 refine wpAnyH_take (i := 1) (oi := _) (v := .pointer (some ⟨g + 1, 4, none⟩)) rfl (by kernel_rfl) (by kernel_rfl) (by kernel_rfl) (fun _ _ _ h => h) (Or.inl ⟨by rfl, fun w hS => ?_⟩) hHeld ?_
 · go_simp
 simp only [Act.put]
 refine wpAnyH_take (i := 3) (oi := _) (v := .int .i64 d) rfl (by kernel_rfl) (by kernel_rfl) (by kernel_rfl) (fun _ _ _ h => h) (Or.inl ⟨by rfl, fun w hS => ?_⟩) hHeld ?_
 · obtain ⟨h1, h2⟩ := hS
   go_simp
 simp only [Act.put]
 refine wpAnyH_take (i := 4) (oi := _) (v := .int .i64 (d + 1)) rfl (by kernel_rfl) (by kernel_rfl) (by kernel_rfl) (fun _ _ _ h => h) (Or.inl ⟨by rfl, fun w hS => ?_⟩) hHeld ?_
 · go_simp
 simp only [Act.put]
 refine wpAnyH_ready (rs := [2]) (by kernel_rfl) (by simp) ?_
 refine AllReadyH.cons rfl (fun K hK => ?_) AllReadyH.nil
 go_simp
 refine HTF.out.mono ?_
 rintro e1 w1 ⟨rfl, hbm⟩
 have HB := lh hbm
 clear hbm
 unfold boom
 go_wp2
 refine ⟨rfl, rfl, ?_⟩
 exact Chg.of_below ((Below.drew (Below.refl _ w)).trans HB.out)
end
theorem Xmq {w : World} {Bc Ba B : Nat} {u : Value} {T : List (List UInt8)} (hp : Xap w Bc Ba B u T) (hB : B ≤ w.heap.size) (i : Nat) (C : Ts) (hC : C = some (if i = 0 then [] else [[44]])) :
  Calls Tryz.prog 57 #[penV Bc Ba, .int .i64 i] w (Xal w Bc Ba B u (adv T C)) := by
 unfold penV
 by_cases hi : i = 0
 · subst hi
   have HP := lh hp
   have HC : Hid (C = some []) := lh (hC.trans (by rw [if_pos rfl]))
   clear hp hC
   go_enter Tryz.func57, Tryz.ntmps57
   go_wp2_with fail
   go_end0
   rw [HC.out, Xbe HP.out.fit]
   exact ⟨rfl, u, Went.refl HP.out⟩
 · have h0 : 0 < i := by omega
   have HC : Hid (C = some [[44]]) := lh (hC.trans (by rw [if_neg hi]))
   have HP := lh (Xaq (Went.refl hp) hB [[44]] (by simp) (by simp))
   clear hi hp hC
   go_enter Tryz.func57, Tryz.ntmps57
   go_wp2_with fail
   refine HP.out.mono ?_
   rintro e w9 hpost
   cases hR : adv T (some [[44]]) with
   | none =>
     rw [hR] at hpost
     obtain ⟨rfl, hch⟩ := hpost
     unfold boom
     go_wp2
     refine ⟨rfl, ?_⟩
     rw [HC.out, hR]
     exact ⟨rfl, hch⟩
   | some U =>
     rw [hR] at hpost
     obtain ⟨rfl, u1, hwent⟩ := hpost
     have HWF := lh hwent
     clear hwent
     go_wp2
     go_end0
     rw [HC.out, hR]
     exact ⟨rfl, u1, HWF.out⟩
theorem Xnt (k p n : Int) (s : ByteArray) (A : Option Addr) (m c : Nat) (w : World) (t : Bool) (ht : t = decide (k = 4 ∨ k = 5 ∨ k = 6)) :
  Calls Tryz.prog 72 #[.agg #[.int .i64 k, .int .i64 p, .int .i64 n, .string s, .slice A m c]] w fun e w' => e = .returned (.bool t) ∧ Below w.heap.size w w' := by
 have HT := lh ht
 clear ht
 go_enter Tryz.func72, Tryz.ntmps72
 go_wp2_with fail
 all_goals
  go_ret
  refine ⟨Xca ?_, (Below.refl _ w).alloc (Nat.le_refl _) _⟩
  rw [HT.out]
  first | rfl | (rw [Bool.eq_iff_iff]; simp; try omega)
theorem Xos {es : List Ex} {j : Nat} (h : j < es.length) (D : Int) : Xea (es.drop j) j D = cat (some (if j = 0 then [] else [[44]])) (cat (penE es[j] D 0) (Xea (es.drop (j + 1)) (j + 1) D)) := by
 rw [List.drop_eq_getElem_cons h, Xea, Xbo]
set_option maxRecDepth 100000 in
set_option maxHeartbeats 2000000 in
theorem Xqe {w0 w : World} {Bc Ba B : Nat} {u : Value} {T : List (List UInt8)} (hb : Below B w0 w) (hB : B ≤ w.heap.size) (hp : Xap w Bc Ba B u T) (es : List Ex) {V : Value} (hr : Xbd w0 B es V) (D : Int) (hD0 : 0 ≤ D) (hD : D ≤ 100) :
  Calls Tryz.prog 88 #[penV Bc Ba, V, .int .i64 D] w (Xal w Bc Ba B u (adv T (Xhj es D))) := by
 obtain ⟨A, c, rfl, hc, hM, hA⟩ := hr
 obtain ⟨n, hn⟩ : ∃ n, n = es.length := ⟨_, rfl⟩
 rw [← hn] at hc ⊢
 by_cases h4 : n ≤ 4
 · have h4' : decide ((n : Int) ≤ 4) = true := by rw [decide_eq_true_eq]; omega
   have HEQ : Hid (adv T (Xhj es D) = adv T (cat (some [[40]]) (cat (Xea es 0 D) (some [[41]])))) := lh (congrArg (adv T) (Xai (p := es.length ≤ 4) (by omega) (cat (some [[40]]) (cat (Xea es 0 D) (some [[41]])))))
   have HN := lh hn
   have HA := lh hA
   have HP := lh hp
   have HBB := lh hb
   unfold penV
   clear hn hA h4 hp hb
   go_enter Tryz.func88, Tryz.ntmps88
   go_wp2_with fail
   refine (Xaj _).mono ?_
   rintro e w1 ⟨rfl, rfl⟩
   go_wp2_with fail
   refine (Xaq (Went.refl HP.out) hB [[40]] (by simp) (by simp)).mono ?_
   rintro e1 w1 hpost
   cases hR : adv T (some [[40]]) with
   | none =>
     rw [hR] at hpost
     obtain ⟨rfl, hch⟩ := hpost
     have HNO := lh (HEQ.out.trans (Xad hR _))
     clear hR
     unfold boom
     go_wp2
     refine ⟨rfl, ?_⟩
     rw [HNO.out]
     exact ⟨rfl, hch⟩
   | some T1 =>
     rw [hR] at hpost
     obtain ⟨rfl, u1, hwent⟩ := hpost
     have HW1 := lh hwent
     have HEQ1 := lh (HEQ.out.trans (Xae hR _))
     clear hwent hR
     go_wp2_with fail
     go_loopw [17] (fun i wr => ∃ (j : Nat) (u' : Value) (T' : List (List UInt8)), j ≤ n ∧ i = .int .i64 j ∧ Hid (Went w Bc Ba B u wr u' T') ∧ Hid (adv T (Xhj es D) = adv T' (cat (Xea (es.drop j) j D) (some [[41]])))) (fun i _ => n - (intOf i).toNat)
     case atStart => exact ⟨0, u1, T1, Nat.zero_le _, rfl, HW1, HEQ1⟩
     case round =>
      obtain ⟨wo, rfl⟩ : ∃ wo : World, wo = wr := ⟨_, rfl⟩
      obtain ⟨j, u2, T2, hj, rfl, HW2, HEQ2⟩ := hrel
      by_cases hlt : j < n
      · have hjt : j < es.length := by rw [← HN.out]; exact hlt
        obtain ⟨b, off, A5, n5, c5, rfl, hbB, hnm, r0, r1, r2, r3, r4, hWr⟩ := HA.out j hjt
        have hbw : Below B w0 wo := HBB.out.trans (HW2.out.2.2.below hB (fun x hx => (HP.out.mine hx).1))
        have up : ∀ {i : Nat} {v : Value}, w0.cell? ⟨b, i, none⟩ = some v → wo.cell? ⟨b, i, none⟩ = some v := fun h => (hbw.cell hbB).trans h
        have r0 := up r0
        have r1 := up r1
        have r2 := up r2
        have r3 := up r3
        have r4 := up r4
        have hdr := Xos hjt D
        obtain ⟨E, hE⟩ : ∃ E, E = es[j] := ⟨_, rfl⟩
        rw [← hE] at r0 r1 r2 r3 hWr hnm hdr
        clear up hE
        have HDR := lh hdr
        have HWR := lh hWr
        have HBW := lh hbw
        clear hdr hWr hbw hnm
        obtain ⟨C, hC⟩ : ∃ C : Ts, C = some (if j = 0 then [] else [[44]]) := ⟨_, rfl⟩
        obtain ⟨Y, hY⟩ : ∃ Y : World, Y = wo.alloc (.cells #[.int .i64 E.kind, .int .i64 E.pl, .int .i64 E.num, .string (Xaa E.name), .slice A5 n5 c5] 35) := ⟨_, rfl⟩
        have hwy : Went w Bc Ba B u Y u2 T2 := by rw [hY]; exact HW2.out.alloc _
        have hblk : Xbx Y wo.heap.size E.kind E.pl E.num (Xaa E.name) (.slice A5 n5 c5) := by rw [hY]; exact Xbx.new wo _ _ _ _ _
        have hBy : B ≤ Y.heap.size := Nat.le_trans hB hwy.2.2.size
        have hcm := Xmq hwy.1 hBy j C hC
        have HDR2 : Hid (Xea (es.drop j) j D = cat C (cat (penE E D 0) (Xea (es.drop (j + 1)) (j + 1) D))) := lh (by rw [HDR.out, hC])
        have hmn : ∀ x, Mine Bc Ba u2 x → x < wo.heap.size := fun x hx => (HW2.out.1.mine hx).2
        have HEQ3 : Hid (adv T (Xhj es D) = adv T2 (cat C (cat (penE E D 0) (cat (Xea (es.drop (j + 1)) (j + 1) D) (some [[41]]))))) := lh (by rw [HEQ2.out, HDR2.out, Xbo, Xbo])
        have HWY := lh hwy
        have HBLK := lh hblk
        have HY := lh hY
        have HCM := lh hcm
        have HMN := lh hmn
        clear hwy hblk hY hcm hC HDR HDR2 hmn
        unfold penV at HCM
        go_wp2_with fail
        rw [← HY.out]
        refine HCM.out.mono ?_
        rintro e3 w3 hpost
        cases hR : adv T2 C with
        | none =>
          rw [hR] at hpost
          obtain ⟨rfl, hch⟩ := hpost
          have HNO := lh (HEQ3.out.trans (Xad hR _))
          have HCH := lh (HWY.out.fell hch)
          clear hR hch
          unfold boom
          go_wp2
          refine ⟨rfl, ?_⟩
          rw [HNO.out]
          exact ⟨rfl, HCH.out⟩
        | some T3 =>
          rw [hR] at hpost
          obtain ⟨rfl, u3, hwent⟩ := hpost
          have HW3 := lh (HWY.out.trans hwent)
          have HEQ4 := lh (HEQ3.out.trans (Xae hR _))
          have hb3 : Xbx w3 wo.heap.size E.kind E.pl E.num (Xaa E.name) (.slice A5 n5 c5) := (hwent.2.2.block _ (Xab HBLK.out) (fun hm => by have := HMN.out _ hm; omega)).trans HBLK.out
          have hb03 : Below B w0 w3 := HBB.out.trans (HW3.out.2.2.below hB (fun x hx => (HP.out.mine hx).1))
          have hcall := HWR.out w3 Bc Ba u3 T3 D 0 hb03 (Nat.le_trans hB HW3.out.2.2.size) HW3.out.1 hD0 hD (by omega) (by omega)
          have k0 := hb3.c0
          have k1 := hb3.c1
          have k2 := hb3.c2
          have k3 := hb3.c3
          have k4 := hb3.c4
          have HCALL := lh hcall
          clear hwent hR hb3 hb03 hcall
          unfold penV at HCALL
          go_wp2_with fail
          refine HCALL.out.mono ?_
          rintro e4 w4 hpost
          cases hR : adv T3 (penE E D 0) with
          | none =>
            rw [hR] at hpost
            obtain ⟨rfl, hch⟩ := hpost
            have HNO := lh (HEQ4.out.trans (Xad hR _))
            have HCH := lh (HW3.out.fell hch)
            clear hR hch
            unfold boom
            go_wp2
            refine ⟨rfl, ?_⟩
            rw [HNO.out]
            exact ⟨rfl, HCH.out⟩
          | some T4 =>
            rw [hR] at hpost
            obtain ⟨rfl, u4, hwent⟩ := hpost
            have HW4 := lh (HW3.out.trans hwent)
            have HEQ5 := lh (HEQ4.out.trans (Xae hR _))
            clear hwent hR
            go_wp2_with fail
            go_roundw
            case rel => exact ⟨j + 1, u4, T4, by omega, by go_num, HW4, HEQ5⟩
            case measure => simp [intOf]; omega
      · have hjn : j = n := by omega
        subst hjn
        have hdn : es.drop j = [] := List.drop_of_length_le (by rw [HN.out]; exact Nat.le_refl _)
        have HEQ3 : Hid (adv T (Xhj es D) = adv T2 (some [[41]])) := lh (by rw [HEQ2.out, hdn, Xea, Xbh])
        clear hdn
        go_wp2_with fail
        refine (Xaq (Went.refl HW2.out.1) (Nat.le_trans hB HW2.out.2.2.size) [[41]] (by simp) (by simp)).mono ?_
        rintro e4 w4 hpost
        cases hR : adv T2 (some [[41]]) with
        | none =>
          rw [hR] at hpost
          obtain ⟨rfl, hch⟩ := hpost
          have HNO := lh (HEQ3.out.trans hR)
          have HCH := lh (HW2.out.fell hch)
          clear hR hch
          unfold boom
          go_wp2
          refine ⟨rfl, ?_⟩
          rw [HNO.out]
          exact ⟨rfl, HCH.out⟩
        | some T4 =>
          rw [hR] at hpost
          obtain ⟨rfl, u4, hwent⟩ := hpost
          have HW4 := lh (HW2.out.trans hwent)
          have HFIN := lh (HEQ3.out.trans hR)
          clear hwent hR
          go_wp2
          go_end0
          rw [HFIN.out]
          exact ⟨rfl, u4, HW4.out⟩
 · have h4' : decide ((n : Int) ≤ 4) = false := by rw [decide_eq_false_iff_not]; omega
   have HNO : Hid (adv T (Xhj es D) = none) := lh (by unfold Xhj; rw [Xag (by omega)]; rfl)
   clear hn hA h4 hp hb
   unfold penV
   go_enter Tryz.func88, Tryz.ntmps88
   go_wp2_with fail
   refine (Xah _).mono ?_
   rintro e w1 ⟨rfl, rfl⟩
   unfold boom
   go_wp2
   refine ⟨rfl, ?_⟩
   rw [HNO.out]
   exact ⟨rfl, Chg.refl _ _⟩
def BlPost5 (w : World) (g Bc Ba B : Nat) (u : Value) (k p : Int) (nm ty : List UInt8) (V ev : Value) (d : Int) (R : Ts) (e : Ending) (w' : World) : Prop := match R with
 | none => e = boom ∧ Chg (fun b => Mine Bc Ba u b ∨ b = g + 1) w w'
 | some T' => e = .returned (.tuple #[]) ∧ ∃ u', Xap w' Bc Ba B u' T' ∧ (∀ b, u'.ownBlock = some b → u.ownBlock = some b ∨ w.heap.size ≤ b) ∧ Chg (fun b => Mine Bc Ba u b ∨ b = g + 1) w w' ∧
    StFr w' g Bc Ba k p nm ty V (.slice none 0 0) ev d
set_option maxRecDepth 100000 in
set_option maxHeartbeats 2000000 in
theorem Xmg {w0 w : World} {g Bc Ba B : Nat} {u : Value} {T : List (List UInt8)} {k p : Int} {nm ty : List UInt8} {V ev : Value} {A : Option Addr} {m c : Nat} {d : Int} {ss : List Sm} (hb : Below B w0 w) (hB : B ≤ g) (hg1 : Bc < g) (hg2 : Ba < g) (hp : Xap w Bc Ba B u T)
  (hf : StFr w g Bc Ba k p nm ty V (.slice A m c) ev d) (hW : Xao w0 B ss (.slice A m c)) (hd0 : 0 ≤ d) (hd : d ≤ 50) :
  Calls Tryz.prog 67 #[.pointer (some ⟨g + 1, 5, none⟩), .pointer (some ⟨g, 0, none⟩), .pointer (some ⟨g + 1 + 1, 0, none⟩)] w (BlPost5 w g Bc Ba B u k p nm ty V ev d (adv T (penB ss (d + 1)))) := by
 have q0 := hf.pc
 have q1 := hf.dc
 have htf := Xfi ⟨g + 1, 5, none⟩ A m c w.drew hf.sm.c5 (hf.sm.fr 5)
 have hwr : IntKind.i64.wrap (d + 1) = d + 1 := IntWalk.i64_in _ ⟨by omega, by omega⟩
 have HTF := lh htf
 clear htf
 go_enter Tryz.func67, Tryz.ntmps67
 go_wp2_with fail
 refine wp_region_held_drew (S := fun w' => w'.cell? ⟨g, 0, none⟩ = some (.func (.func 27) #[] #[.pointer (some ⟨Bc, 0, none⟩), .pointer (some ⟨Ba, 0, none⟩)]) ∧ w'.cell? ⟨g + 1 + 1, 0, none⟩ = some (.int .i64 d)) (by kernel_rfl) ⟨q0, q1⟩ (fun hHeld => ?_)
 refine wpAnyH_take (i := 0) (oi := _) (v := .func (.func 27) #[] #[.pointer (some ⟨Bc, 0, none⟩), .pointer (some ⟨Ba, 0, none⟩)]) rfl (by kernel_rfl) (by kernel_rfl) (by kernel_rfl) (fun _ _ _ h => h) (Or.inl ⟨by rfl, fun w hS => ?_⟩) hHeld ?_
 · obtain ⟨h1, h2⟩ := hS
   go_simp
 simp only [Act.put]
 refine wpAnyH_take (i := 1) (oi := _) (v := .pointer (some ⟨g + 1, 5, none⟩)) rfl (by kernel_rfl) (by kernel_rfl) (by kernel_rfl) (fun _ _ _ h => h) (Or.inl ⟨by rfl, fun w hS => ?_⟩) hHeld ?_
 · go_simp
 simp only [Act.put]
 refine wpAnyH_take (i := 3) (oi := _) (v := .int .i64 d) rfl (by kernel_rfl) (by kernel_rfl) (by kernel_rfl) (fun _ _ _ h => h) (Or.inl ⟨by rfl, fun w hS => ?_⟩) hHeld ?_
 · obtain ⟨h1, h2⟩ := hS
   go_simp
 simp only [Act.put]
 refine wpAnyH_take (i := 4) (oi := _) (v := .int .i64 (d + 1)) rfl (by kernel_rfl) (by kernel_rfl) (by kernel_rfl) (fun _ _ _ h => h) (Or.inl ⟨by rfl, fun w hS => ?_⟩) hHeld ?_
 · go_simp
 simp only [Act.put]
 refine wpAnyH_ready (rs := [2]) (by kernel_rfl) (by simp) ?_
 refine AllReadyH.cons rfl (fun K hK => ?_) AllReadyH.nil
 go_simp
 refine HTF.out.mono ?_
 rintro e1 w1 ⟨rfl, hw1⟩
 have hnm1 := hf.apart hp hg1 hg2 (b := g + 1) (.inr (.inl rfl))
 have hf1 : StFr w1 g Bc Ba k p nm ty V (.slice none 0 0) ev d := by rw [hw1]; exact hf.drew.set5 _
 have hp1 : Xap w1 Bc Ba B u T := by rw [hw1]; exact hp.drew.setCell _ _ hnm1
 have hch1 : Chg (fun b => Mine Bc Ba u b ∨ b = g + 1) w w1 := by rw [hw1]; exact (Chg.refl _ w).drew.setCell _ _ (fun _ => .inr rfl)
 have hBw : B ≤ w.heap.size := Nat.le_trans hB (Nat.le_of_lt (hf.lt (.inl rfl)))
 have hmB : ∀ x, (Mine Bc Ba u x ∨ x = g + 1) → B ≤ x := fun x hx => by
  rcases hx with hx | hx
  · exact (hp.mine hx).1
  · omega
 have hb1 : Below B w0 w1 := hb.trans (hch1.below hBw hmB)
 have k0 := hf1.pc
 have k1 := hf1.dc
 have hcall := hW w1 Bc Ba u T (d + 1) hb1 (Nat.le_trans hBw hch1.size) hp1 (by omega) (by omega)
 have HF1 := lh hf1
 have HP1 := lh hp1
 have HC1 := lh hch1
 have HCALL := lh hcall
 clear hf1 hp1 hch1 hcall hw1 hb1 q0 q1
 unfold penV at HCALL
 go_wp2_with fail
 refine hK.out _ _ ⟨k0, k1⟩ (fun hHeld => ?_)
 clear hK K
 refine wpAnyH_ready (rs := [5]) (by kernel_rfl) (by simp) ?_
 refine AllReadyH.cons rfl (fun K hK => ?_) AllReadyH.nil
 go_simp
 refine HCALL.out.mono ?_
 rintro e2 w2 hpost
 cases hR : adv T (penB ss (d + 1)) with
 | none =>
   rw [hR] at hpost
   obtain ⟨rfl, hch2⟩ := hpost
   have hch : Chg (fun b => Mine Bc Ba u b ∨ b = g + 1) w w2 := HC1.out.trans hch2 (fun x _ hx => .inl hx)
   have HCH := lh hch
   clear hR hch2 hch
   unfold boom
   go_wp2
   refine ⟨rfl, ?_⟩
   exact ⟨rfl, HCH.out⟩
 | some T2 =>
   rw [hR] at hpost
   obtain ⟨rfl, u2, hwent⟩ := hpost
   have HR := lh hR
   have hf2 := HF1.out.went HP1.out hg1 hg2 hwent
   have k02 := hf2.pc
   have k12 := hf2.dc
   have HF2 := lh hf2
   have HW2 := lh hwent
   clear hR hwent hf2 k0 k1
   go_wp2_with fail
   refine hK.out _ _ ⟨k02, k12⟩ (fun hHeld => ?_)
   clear hK K
   refine wpAnyH_done (by kernel_rfl) ?_ _
   go_wp2
   go_end0
   rw [HR.out]
   refine ⟨rfl, u2, HW2.out.1, fun x hx => ?_, HC1.out.trans HW2.out.2.2 (fun x _ hx => .inl hx), HF2.out⟩
   have hsz := HC1.out.size
   rcases HW2.out.2.1 x hx with h | h
   · exact .inl h
   · exact .inr (by omega)
def BlPost6 (w : World) (g Bc Ba B : Nat) (u : Value) (k p : Int) (nm ty : List UInt8) (V bv : Value) (d : Int) (R : Ts) (e : Ending) (w' : World) : Prop := match R with
 | none => e = boom ∧ Chg (fun b => Mine Bc Ba u b ∨ b = g + 1) w w'
 | some T' => e = .returned (.tuple #[]) ∧ ∃ u', Xap w' Bc Ba B u' T' ∧ (∀ b, u'.ownBlock = some b → u.ownBlock = some b ∨ w.heap.size ≤ b) ∧ Chg (fun b => Mine Bc Ba u b ∨ b = g + 1) w w' ∧
    StFr w' g Bc Ba k p nm ty V bv (.slice none 0 0) d
set_option maxRecDepth 100000 in
set_option maxHeartbeats 2000000 in
theorem stb6_any {w0 w : World} {g Bc Ba B : Nat} {u : Value} {T : List (List UInt8)} {k p : Int} {nm ty : List UInt8} {V bv : Value} {A : Option Addr} {m c : Nat} {d : Int} {ss : List Sm} (hb : Below B w0 w) (hB : B ≤ g) (hg1 : Bc < g) (hg2 : Ba < g) (hp : Xap w Bc Ba B u T)
  (hf : StFr w g Bc Ba k p nm ty V bv (.slice A m c) d) (hW : Xao w0 B ss (.slice A m c)) (hd0 : 0 ≤ d) (hd : d ≤ 50) :
  Calls Tryz.prog 67 #[.pointer (some ⟨g + 1, 6, none⟩), .pointer (some ⟨g, 0, none⟩), .pointer (some ⟨g + 1 + 1, 0, none⟩)] w (BlPost6 w g Bc Ba B u k p nm ty V bv d (adv T (penB ss (d + 1)))) := by
 have q0 := hf.pc
 have q1 := hf.dc
 have htf := Xfi ⟨g + 1, 6, none⟩ A m c w.drew hf.sm.c6 (hf.sm.fr 6)
 have hwr : IntKind.i64.wrap (d + 1) = d + 1 := IntWalk.i64_in _ ⟨by omega, by omega⟩
 have HTF := lh htf
 clear htf
 go_enter Tryz.func67, Tryz.ntmps67
 go_wp2_with fail
 refine wp_region_held_drew (S := fun w' => w'.cell? ⟨g, 0, none⟩ = some (.func (.func 27) #[] #[.pointer (some ⟨Bc, 0, none⟩), .pointer (some ⟨Ba, 0, none⟩)]) ∧ w'.cell? ⟨g + 1 + 1, 0, none⟩ = some (.int .i64 d)) (by kernel_rfl) ⟨q0, q1⟩ (fun hHeld => ?_)
 refine wpAnyH_take (i := 0) (oi := _) (v := .func (.func 27) #[] #[.pointer (some ⟨Bc, 0, none⟩), .pointer (some ⟨Ba, 0, none⟩)]) rfl (by kernel_rfl) (by kernel_rfl) (by kernel_rfl) (fun _ _ _ h => h) (Or.inl ⟨by rfl, fun w hS => ?_⟩) hHeld ?_
 · obtain ⟨h1, h2⟩ := hS
   go_simp
 simp only [Act.put]
 refine wpAnyH_take (i := 1) (oi := _) (v := .pointer (some ⟨g + 1, 6, none⟩)) rfl (by kernel_rfl) (by kernel_rfl) (by kernel_rfl) (fun _ _ _ h => h) (Or.inl ⟨by rfl, fun w hS => ?_⟩) hHeld ?_
 · go_simp
 simp only [Act.put]
 refine wpAnyH_take (i := 3) (oi := _) (v := .int .i64 d) rfl (by kernel_rfl) (by kernel_rfl) (by kernel_rfl) (fun _ _ _ h => h) (Or.inl ⟨by rfl, fun w hS => ?_⟩) hHeld ?_
 · obtain ⟨h1, h2⟩ := hS
   go_simp
 simp only [Act.put]
 refine wpAnyH_take (i := 4) (oi := _) (v := .int .i64 (d + 1)) rfl (by kernel_rfl) (by kernel_rfl) (by kernel_rfl) (fun _ _ _ h => h) (Or.inl ⟨by rfl, fun w hS => ?_⟩) hHeld ?_
 · go_simp
 simp only [Act.put]
 refine wpAnyH_ready (rs := [2]) (by kernel_rfl) (by simp) ?_
 refine AllReadyH.cons rfl (fun K hK => ?_) AllReadyH.nil
 go_simp
 refine HTF.out.mono ?_
 rintro e1 w1 ⟨rfl, hw1⟩
 have hnm1 := hf.apart hp hg1 hg2 (b := g + 1) (.inr (.inl rfl))
 have hf1 : StFr w1 g Bc Ba k p nm ty V bv (.slice none 0 0) d := by rw [hw1]; exact hf.drew.set6 _
 have hp1 : Xap w1 Bc Ba B u T := by rw [hw1]; exact hp.drew.setCell _ _ hnm1
 have hch1 : Chg (fun b => Mine Bc Ba u b ∨ b = g + 1) w w1 := by rw [hw1]; exact (Chg.refl _ w).drew.setCell _ _ (fun _ => .inr rfl)
 have hBw : B ≤ w.heap.size := Nat.le_trans hB (Nat.le_of_lt (hf.lt (.inl rfl)))
 have hmB : ∀ x, (Mine Bc Ba u x ∨ x = g + 1) → B ≤ x := fun x hx => by
  rcases hx with hx | hx
  · exact (hp.mine hx).1
  · omega
 have hb1 : Below B w0 w1 := hb.trans (hch1.below hBw hmB)
 have k0 := hf1.pc
 have k1 := hf1.dc
 have hcall := hW w1 Bc Ba u T (d + 1) hb1 (Nat.le_trans hBw hch1.size) hp1 (by omega) (by omega)
 have HF1 := lh hf1
 have HP1 := lh hp1
 have HC1 := lh hch1
 have HCALL := lh hcall
 clear hf1 hp1 hch1 hcall hw1 hb1 q0 q1
 unfold penV at HCALL
 go_wp2_with fail
 refine hK.out _ _ ⟨k0, k1⟩ (fun hHeld => ?_)
 clear hK K
 refine wpAnyH_ready (rs := [5]) (by kernel_rfl) (by simp) ?_
 refine AllReadyH.cons rfl (fun K hK => ?_) AllReadyH.nil
 go_simp
 refine HCALL.out.mono ?_
 rintro e2 w2 hpost
 cases hR : adv T (penB ss (d + 1)) with
 | none =>
   rw [hR] at hpost
   obtain ⟨rfl, hch2⟩ := hpost
   have hch : Chg (fun b => Mine Bc Ba u b ∨ b = g + 1) w w2 := HC1.out.trans hch2 (fun x _ hx => .inl hx)
   have HCH := lh hch
   clear hR hch2 hch
   unfold boom
   go_wp2
   refine ⟨rfl, ?_⟩
   exact ⟨rfl, HCH.out⟩
 | some T2 =>
   rw [hR] at hpost
   obtain ⟨rfl, u2, hwent⟩ := hpost
   have HR := lh hR
   have hf2 := HF1.out.went HP1.out hg1 hg2 hwent
   have k02 := hf2.pc
   have k12 := hf2.dc
   have HF2 := lh hf2
   have HW2 := lh hwent
   clear hR hwent hf2 k0 k1
   go_wp2_with fail
   refine hK.out _ _ ⟨k02, k12⟩ (fun hHeld => ?_)
   clear hK K
   refine wpAnyH_done (by kernel_rfl) ?_ _
   go_wp2
   go_end0
   rw [HR.out]
   refine ⟨rfl, u2, HW2.out.1, fun x hx => ?_, HC1.out.trans HW2.out.2.2 (fun x _ hx => .inl hx), HF2.out⟩
   have hsz := HC1.out.size
   rcases HW2.out.2.1 x hx with h | h
   · exact .inl h
   · exact .inr (by omega)
section
theorem need_iff {p q : Prop} [Decidable p] [Decidable q] (h : p ↔ q) (c : Ts) : need p c = need q c := by
 by_cases hp : p
 · rw [Xai hp, Xai (h.1 hp)]
 · rw [Xag hp, Xag (fun e => hp (h.2 e))]
theorem Xct {w X : World} {g Bc Ba : Nat} {k p d : Int} {nm ty : List UInt8} {V bv ev : Value} (hX : X = ((w.alloc (.cells #[penV Bc Ba] 49)).alloc (.cells #[.int .i64 k, .int .i64 p, .string (Xaa nm), .string (Xaa ty), V, bv, ev] 38)).alloc (.cells #[.int .i64 d] 3))
  (hg : g = w.heap.size) : StFr X g Bc Ba k p nm ty V bv ev d ∧ X.heap.size = g + 3 := by
 subst hg
 refine ⟨⟨?_, ?_, ?_⟩, by rw [hX]; simp⟩
 · rw [hX, Below.heap_alloc _ _ _ (by simp; omega), Below.heap_alloc _ _ _ (by simp)]; exact heap_alloc_new _ _
 · unfold Xbp
   rw [hX, Below.heap_alloc _ _ _ (by simp)]
   have := heap_alloc_new (w.alloc (.cells #[penV Bc Ba] 49)) (.cells #[.int .i64 k, .int .i64 p, .string (Xaa nm), .string (Xaa ty), V, bv, ev] 38)
   simpa using this
 · rw [hX]
   have := heap_alloc_new ((w.alloc (.cells #[penV Bc Ba] 49)).alloc (.cells #[.int .i64 k, .int .i64 p, .string (Xaa nm), .string (Xaa ty), V, bv, ev] 38)) (.cells #[.int .i64 d] 3)
   simpa using this
section
variable {w0 w : World} {g Bc Ba B : Nat} {k p : Int} {nm ty : List UInt8} {V bv ev u : Value} {d : Int} {T : List (List UInt8)} {ex : List Ex}
theorem Xgg (hf : StFr w g Bc Ba k p nm ty V bv ev d) (hs : nm.length ≤ 40000) (hn : Xam nm = true) :
  Calls Tryz.prog 68 #[.pointer (some ⟨g + 1, 0, none⟩)] w fun e w' => e = .returned (.string (Xaa nm)) ∧ Chg (fun b => b = g + 1) w w' ∧ StFr w' g Bc Ba k p [] ty V bv ev d := by
 have hc := hf.sm.c2
 have hz := hf.sm.fr 2
 have hsz : (Xaa nm).size ≤ 40000 := by rw [Lib.size_eq, Xak]; exact hs
 have HN := lh (Xba ⟨g + 1, 2, none⟩ (Xaa nm) w hc hz hsz hn)
 clear hc hz hsz hn hs
 go_enter Tryz.func68, Tryz.ntmps68
 go_wp2_with fail
 refine HN.out.mono ?_
 rintro e w1 ⟨rfl, wm, hb, hw⟩
 have HB := lh hb
 clear hb
 go_wp2_with fail
 go_ret
 refine ⟨rfl, ?_, ?_⟩
 · exact (Chg.of_below HB.out).setCell _ _ (fun _ => rfl)
 · exact (hf.below HB.out).set2 []
theorem Xkj (hf : StFr w g Bc Ba k p nm ty V bv ev d) (hs : nm.length ≤ 40000) (hn : Xam nm = false) :
  Calls Tryz.prog 68 #[.pointer (some ⟨g + 1, 0, none⟩)] w fun e w' => e = boom ∧ Below w.heap.size w w' := by
 have hc := hf.sm.c2
 have hsz : (Xaa nm).size ≤ 40000 := by rw [Lib.size_eq, Xak]; exact hs
 have HN := lh (Xdf ⟨g + 1, 2, none⟩ (Xaa nm) w hc hsz hn)
 clear hc hsz hn hs
 go_enter Tryz.func68, Tryz.ntmps68
 go_wp2_with fail
 refine HN.out.mono ?_
 rintro e w1 ⟨rfl, hb⟩
 have HB := lh hb
 clear hb
 unfold boom
 go_wp2
 exact ⟨rfl, rfl, HB.out⟩
theorem stt_yes (hf : StFr w g Bc Ba k p nm ty V bv ev d) (hs : ty.length ≤ 40000) (hn : Xam ty = true) :
  Calls Tryz.prog 38 #[.pointer (some ⟨g + 1, 3, none⟩)] w fun e w' => e = .returned (.string (Xaa ty)) ∧ Chg (fun b => b = g + 1) w w' ∧ StFr w' g Bc Ba k p nm [] V bv ev d := by
 have hsz : (Xaa ty).size ≤ 40000 := by rw [Lib.size_eq, Xak]; exact hs
 refine (Xba ⟨g + 1, 3, none⟩ (Xaa ty) w hf.sm.c3 (hf.sm.fr 3) hsz hn).mono ?_
 rintro e w' ⟨rfl, w1, hb, rfl⟩
 exact ⟨rfl, (Chg.of_below hb).setCell _ _ (fun _ => rfl), (hf.below hb).set3 []⟩
theorem stt_no (hf : StFr w g Bc Ba k p nm ty V bv ev d) (hs : ty.length ≤ 40000) (hn : Xam ty = false) :
  Calls Tryz.prog 38 #[.pointer (some ⟨g + 1, 3, none⟩)] w fun e w' => e = boom ∧ Below w.heap.size w w' :=
 Xdf ⟨g + 1, 3, none⟩ (Xaa ty) w hf.sm.c3 (by rw [Lib.size_eq, Xak]; exact hs) hn
theorem Xmi (hf : StFr w g Bc Ba k p nm ty V bv ev d) :
  Calls Tryz.prog 43 #[.pointer (some ⟨g + 1, 3, none⟩)] w fun e w' => e = .returned (.string (Xaa ty)) ∧ Chg (fun b => b = g + 1) w w' ∧ StFr w' g Bc Ba k p nm [] V bv ev d := by
 refine (Xen ⟨g + 1, 3, none⟩ (Xaa ty) w hf.sm.c3 (hf.sm.fr 3)).mono ?_
 rintro e w' ⟨rfl, rfl⟩
 exact ⟨rfl, (Chg.refl _ w).setCell _ _ (fun _ => rfl), hf.set3 []⟩
theorem stx_take {A : Option Addr} {m c : Nat} (hf : StFr w g Bc Ba k p nm ty (.slice A m c) bv ev d) :
  Calls Tryz.prog 74 #[.pointer (some ⟨g + 1, 4, none⟩)] w fun e w' => e = .returned (.slice A m c) ∧ Chg (fun b => b = g + 1) w w' ∧ StFr w' g Bc Ba k p nm ty (.slice none 0 0) bv ev d := by
 refine (Xtl ⟨g + 1, 4, none⟩ A m c w hf.sm.c4 (hf.sm.fr 4)).mono ?_
 rintro e w' ⟨rfl, rfl⟩
 exact ⟨rfl, (Chg.refl _ w).setCell _ _ (fun _ => rfl), hf.set4 _⟩
theorem Xje.alloc_ {w w' : World} {o : Obj} {rest : List Ex} {R : Ts} {e : Ending} (h : Xje w0 (w.alloc o) g Bc Ba B u k p nm ty bv ev d rest R e w') : Xje w0 w g Bc Ba B u k p nm ty bv ev d rest R e w' := by
 have ha : ∀ P, Chg P w (w.alloc o) := fun P => (Chg.refl P w).alloc o
 cases R with
 | none => exact ⟨h.1, (ha _).trans h.2 (fun _ _ hx => hx)⟩
 | some T' =>
   obtain ⟨h1, u', V', h2, h3, h4, h5, h6⟩ := h
   refine ⟨h1, u', V', h2, fun b hb => ?_, (ha _).trans h4 (fun _ _ hx => hx), h5, h6⟩
   rcases h3 b hb with h | h
   · exact .inl h
   · right; simp at h; omega
theorem Xkg (hb : Below B w0 w) (hB : B ≤ g) (hg1 : Bc < g) (hg2 : Ba < g) (hp : Xap w Bc Ba B u T) (hf : StFr w g Bc Ba k p nm ty V bv ev d) (hr : Xbd w0 B ex V) (hd0 : 0 ≤ d) (hd : d ≤ 50) (ts : List (List UInt8)) (hl : ∀ t ∈ ts, t.length ≤ 40000) (hn : ts.length ≤ 1000) :
  Calls Tryz.prog 69 #[.slice (some ⟨w.heap.size, 0, none⟩) ts.length ts.length, .pointer (some ⟨g, 0, none⟩), .pointer (some ⟨g + 1, 0, none⟩), .pointer (some ⟨g + 1 + 1, 0, none⟩)] (w.alloc (.cells (Xck ts) 9))
   (Xje w0 w g Bc Ba B u k p nm ty bv ev d ex.tail (adv T (argC ex d ts))) := by
 have hBw : B ≤ w.heap.size := Nat.le_trans hB (Nat.le_of_lt (hf.lt (.inl rfl)))
 have hb' : Below B w0 (w.alloc (.cells (Xck ts) 9)) := hb.alloc hBw _
 have hf' : StFr (w.alloc (.cells (Xck ts) 9)) g Bc Ba k p nm ty V bv ev d := hf.below ((Below.refl _ w).alloc (Nat.le_refl _) _)
 have hs := Xjc w (fun b => Mine Bc Ba u b ∨ b = g + 1) ts hl (by omega) (fun hm => by
  rcases hm with hm | hm
  · have := (hp.mine hm).2; omega
  · have := hf.lt (b := g + 1) (.inr (.inl rfl)); omega)
 cases ex with
 | nil => exact (ste_no hb' hB hg1 hg2 (hp.alloc _) hf' hr hd0 hd ts _ hs).mono fun e w' h => h.alloc_
 | cons e es => exact (Xwr hb' hB hg1 hg2 (hp.alloc _) hf' hr hd0 hd ts _ hs).mono fun e w' h => h.alloc_
theorem Xmh (hb : Below B w0 w) (hB : B ≤ g) (hg1 : Bc < g) (hg2 : Ba < g) (hp : Xap w Bc Ba B u T) (hf : StFr w g Bc Ba k p nm ty V bv ev d) (hr : Xbd w0 B ex V) (hd0 : 0 ≤ d) (hd : d ≤ 50) :
  Calls Tryz.prog 69 #[.slice none 0 0, .pointer (some ⟨g, 0, none⟩), .pointer (some ⟨g + 1, 0, none⟩), .pointer (some ⟨g + 1 + 1, 0, none⟩)] w
   (Xje w0 w g Bc Ba B u k p nm ty bv ev d ex.tail (adv T (argC ex d []))) := by
 have hs : Xed w (fun b => Mine Bc Ba u b ∨ b = g + 1) (.slice none 0 0) [] := ⟨none, 0, rfl, Nat.le_refl _, by omega, fun k hk => absurd hk (by simp)⟩
 cases ex with
 | nil => exact ste_no hb hB hg1 hg2 hp hf hr hd0 hd [] _ hs
 | cons e es => exact Xwr hb hB hg1 hg2 hp hf hr hd0 hd [] _ hs
end
end
set_option maxRecDepth 100000 in
set_option maxHeartbeats 4000000 in
theorem Xtd {w0 w : World} {Bc Ba B : Nat} {u : Value} {T : List (List UInt8)} {p : Int} {nm ty : List UInt8} {V bv ev : Value} {ex : List Ex} {bd el : List Sm} {d : Int} (hb : Below B w0 w) (hB : B ≤ w.heap.size) (hp : Xap w Bc Ba B u T) (hd0 : 0 ≤ d) (hd : d ≤ 24) (hr : Xbd w0 B ex V) (hnl : nm.length ≤ 40000) (htl : ty.length ≤ 40000)
  (hbd : Xao w0 B bd bv) (hel : Xao w0 B el ev) (hbs : ∃ A c, bv = .slice A bd.length c) (hes : ∃ A c, ev = .slice A el.length c) (hq : Xam nm = true) :
  Calls Tryz.prog 58 #[penV Bc Ba, .agg #[.int .i64 5, .int .i64 p, .string (Xaa nm), .string (Xaa ty), V, bv, ev], .int .i64 d] w (Xal w Bc Ba B u (adv T (penS (.mk 5 p nm ty ex bd el) d))) := by
 have hmf : ∀ (fn : Fn) (first cap : Array Value) (w : World), (Instr.makeFunc fn first cap).run Tryz.prog w = .ok (.func fn first cap) w := fun _ _ _ _ => rfl
 obtain ⟨A, c, hrv, _, _, _⟩ := id hr
 subst hrv
 obtain ⟨Ab, cb, hbv⟩ := hbs
 subst hbv
 obtain ⟨Ae, ce, hev⟩ := hes
 subst hev
 obtain ⟨X, hX⟩ : ∃ X : World, X = ((w.alloc (.cells #[penV Bc Ba] 49)).alloc (.cells #[.int .i64 5, .int .i64 p, .string (Xaa nm), .string (Xaa ty), .slice A ex.length c, .slice Ab bd.length cb, .slice Ae el.length ce] 38)).alloc (.cells #[.int .i64 d] 3) := ⟨_, rfl⟩
 obtain ⟨g, hg⟩ : ∃ g, g = w.heap.size := ⟨_, rfl⟩
 obtain ⟨hf, hsz⟩ := Xct hX hg
 have hw : Went w Bc Ba B u X u T := by rw [hX]; exact (((Went.refl hp).alloc _).alloc _).alloc _
 have e0 := hf.sm.c0
 have hg1 : Bc < g := by rw [hg]; exact Xab hp.cnt
 have hg2 : Ba < g := by rw [hg]; exact Xab hp.buf
 have hBg : B ≤ g := by rw [hg]; exact hB
 have hwg : w.heap.size ≤ g := by rw [hg]; exact Nat.le_refl _
 have hd50 : d ≤ 50 := by omega
 have HEQ := lh (congrArg (adv T) ((Xhr p nm ty ex bd el d 5 (.inl rfl)).trans (Xaw hq _)))
 have HXS : Hid (g + 1 + 1 + 1 = X.heap.size) := lh (by rw [hsz])
 have HX := lh hX
 have HG := lh hg
 have HF := lh hf
 have HW := lh hw
 have HR := lh hr
 clear hX hg hf hw hsz hr
 unfold penV at HX ⊢
 go_enter Tryz.func58, Tryz.ntmps58
 have pc1 := (HF.out).pc
 have dc1 := (HF.out).dc
 go_wp2_with fail
 rw [← HX.out, ← HG.out]
 refine wp_region_held_drew (S := fun w' => w'.cell? ⟨g, 0, none⟩ = some (.func (.func 27) #[] #[.pointer (some ⟨Bc, 0, none⟩), .pointer (some ⟨Ba, 0, none⟩)])) (by kernel_rfl) pc1 (fun hHeld => ?_)
 have HWd2 := lh ((HW.out).drew)
 have HFd2 := lh ((HF.out).drew)
 refine wpAnyH_take (i := 0) (oi := _) (v := .func (.func 27) #[] #[.pointer (some ⟨Bc, 0, none⟩), .pointer (some ⟨Ba, 0, none⟩)]) rfl (by kernel_rfl) (by kernel_rfl) (by kernel_rfl) (fun _ _ _ h => h) (Or.inl ⟨by rfl, fun w hS => ?_⟩) hHeld ?_
 · go_simp
 simp only [Act.put]
 refine wpAnyH_take (i := 1) (oi := _) (v := .func (.func 68) #[] #[.pointer (some ⟨g + 1, 0, none⟩)]) rfl (by kernel_rfl) (by kernel_rfl) (by kernel_rfl) (fun _ _ _ h => h) (Or.inl ⟨by rfl, fun w hS => ?_⟩) hHeld ?_
 · go_simp
 simp only [Act.put]
 refine wpAnyH_ready (rs := [2]) (by kernel_rfl) (by simp) ?_
 refine AllReadyH.cons rfl (fun K hK => ?_) AllReadyH.nil
 go_simp
 refine (Xgg (HFd2.out) hnl hq).mono ?_
 rintro e3 w3 ⟨rfl, hch, hfr⟩
 have HW3 := lh ((HWd2.out).loc (w2 := w3) (hch) (Nat.le_succ_of_le hwg) ((HFd2.out).apart (HWd2.out).1 hg1 hg2 (.inr (.inl rfl))))
 have HF3 := lh (hfr)
 clear hch hfr
 have hk4 := (HF3.out).pc
 go_wp2_with fail
 refine hK.out _ _ hk4 (fun hHeld => ?_)
 clear hK K
 refine wpAnyH_ready (rs := [3]) (by kernel_rfl) (by simp) ?_
 refine AllReadyH.cons rfl (fun K hK => ?_) AllReadyH.nil
 go_simp
 refine hK.out _ _ ((HF3.out).below ((Below.refl _ _).alloc (Nat.le_refl _) _)).pc (fun hHeld => ?_)
 clear hK K
 refine wpAnyH_ready (rs := [4]) (by kernel_rfl) (by simp) ?_
 refine AllReadyH.cons rfl (fun K hK => ?_) AllReadyH.nil
 go_simp
 refine (Xaq (Went.refl (HW3.out).1) (Nat.le_trans hB (HW3.out).2.2.size) [Xbf 5, nm, [59]] (by intro t ht; simp at ht; have := hnl; have := htl; first | (rcases ht with rfl | rfl | rfl | rfl <;> first | decide | assumption | simp) | (rcases ht with rfl | rfl | rfl <;> first | decide | assumption | simp) | (rcases ht with rfl | rfl <;> first | decide | assumption | simp) | (rw [ht]; first | decide | assumption) | (rw [ht]; simp)) (by simp)).mono ?_
 rintro e5 w5 hpost
 cases hR : adv T (some [Xbf 5, nm, [59]]) with
 | none =>
   rw [hR] at hpost
   obtain ⟨rfl, hch⟩ := hpost
   have HNO := lh ((HEQ.out).trans (Xad hR _))
   have HCH := lh ((HW3.out).fell hch)
   clear hR hch
   unfold boom
   go_wp2
   refine ⟨rfl, ?_⟩
   rw [HNO.out]
   exact ⟨rfl, HCH.out⟩
 | some T5 =>
   rw [hR] at hpost
   obtain ⟨rfl, u5, hwent⟩ := hpost
   have HW5 := lh ((HW3.out).trans hwent)
   have HF5 := lh ((HF3.out).went (HW3.out).1 hg1 hg2 hwent)
   have HEQ5 := lh ((HEQ.out).trans (Xae hR _))
   clear hwent hR
   have hk6 := (HF5.out).pc
   go_wp2_with fail
   refine hK.out _ _ hk6 (fun hHeld => ?_)
   clear hK K
   refine wpAnyH_done (by kernel_rfl) ?_ _
   have c2 := (HF5.out).sm.c2
   have c3 := (HF5.out).sm.c3
   have c4 := (HF5.out).sm.c4
   have c5 := (HF5.out).sm.c5
   have c6 := (HF5.out).sm.c6
   have hz0 : (Xaa []).toList = [] := Xaf []
   obtain ⟨m, hm⟩ : ∃ m, m = (ex).length := ⟨_, rfl⟩
   rw [← hm] at c4
   obtain ⟨nb, hnb⟩ : ∃ m, m = bd.length := ⟨_, rfl⟩
   rw [← hnb] at c5
   obtain ⟨ne, hne⟩ : ∃ m, m = el.length := ⟨_, rfl⟩
   rw [← hne] at c6
   by_cases ht : ty = []
   case neg =>
    have HNO := lh ((HEQ5.out).trans (show adv T5 (need _ (some [])) = none from by rw [Xag (fun h => ht h.1)]; rfl))
    have hs1 : ¬ (Xaa ty).toList = [] := by rw [Xaf]; exact ht
    clear hm hnb hne ht
    go_wp2_with fail
    refine (Xah _).mono ?_
    rintro e9 w9 ⟨rfl, rfl⟩
    unfold boom
    go_wp2
    refine ⟨rfl, ?_⟩
    rw [HNO.out]
    exact ⟨rfl, (HW5.out).2.2⟩
   by_cases hx : (ex).length = 0
   case neg =>
    have HNO := lh ((HEQ5.out).trans (show adv T5 (need _ (some [])) = none from by rw [Xag (fun h => hx h.2.1)]; rfl))
    subst ht
    have hl1 : (m == 0) = false := by rw [beq_eq_false_iff_ne]; omega
    have hl2 : ((m : Int) == 0) = false := by rw [beq_eq_false_iff_ne]; omega
    clear hm hnb hne hx
    go_wp2_with fail
    refine (Xah _).mono ?_
    rintro e9 w9 ⟨rfl, rfl⟩
    unfold boom
    go_wp2
    refine ⟨rfl, ?_⟩
    rw [HNO.out]
    exact ⟨rfl, (HW5.out).2.2⟩
   by_cases hbl0 : bd.length = 0
   case neg =>
    have HNO := lh ((HEQ5.out).trans (show adv T5 (need _ (some [])) = none from by rw [Xag (fun h => hbl0 h.2.2.1)]; rfl))
    subst ht
    obtain rfl : m = 0 := by omega
    have hl1 : (nb == 0) = false := by rw [beq_eq_false_iff_ne]; omega
    have hl2 : ((nb : Int) == 0) = false := by rw [beq_eq_false_iff_ne]; omega
    clear hm hnb hne hx hbl0
    go_wp2_with fail
    refine (Xah _).mono ?_
    rintro e9 w9 ⟨rfl, rfl⟩
    unfold boom
    go_wp2
    refine ⟨rfl, ?_⟩
    rw [HNO.out]
    exact ⟨rfl, (HW5.out).2.2⟩
   by_cases hel0 : el.length = 0
   case neg =>
    have HNO := lh ((HEQ5.out).trans (show adv T5 (need _ (some [])) = none from by rw [Xag (fun h => hel0 h.2.2.2)]; rfl))
    subst ht
    obtain rfl : m = 0 := by omega
    obtain rfl : nb = 0 := by omega
    have hl1 : (ne == 0) = false := by rw [beq_eq_false_iff_ne]; omega
    have hl2 : ((ne : Int) == 0) = false := by rw [beq_eq_false_iff_ne]; omega
    clear hm hnb hne hx hbl0 hel0
    go_wp2_with fail
    refine (Xah _).mono ?_
    rintro e9 w9 ⟨rfl, rfl⟩
    unfold boom
    go_wp2
    refine ⟨rfl, ?_⟩
    rw [HNO.out]
    exact ⟨rfl, (HW5.out).2.2⟩
   have HFIN := lh ((HEQ5.out).trans (show adv T5 (need _ (some [])) = some T5 from by rw [Xai ⟨ht, hx, hbl0, hel0⟩]; exact Xbe (HW5.out).1.fit))
   subst ht
   obtain rfl : m = 0 := by omega
   obtain rfl : nb = 0 := by omega
   obtain rfl : ne = 0 := by omega
   clear hm hnb hne hx hbl0 hel0
   go_wp2_with fail
   refine (Xaj _).mono ?_
   rintro e9 w9 ⟨rfl, rfl⟩
   go_wp2
   go_end0
   rw [HFIN.out]
   exact ⟨rfl, _, HW5.out⟩
set_option maxRecDepth 100000 in
set_option maxHeartbeats 4000000 in
theorem Xww {w0 w : World} {Bc Ba B : Nat} {u : Value} {T : List (List UInt8)} {p : Int} {nm ty : List UInt8} {V bv ev : Value} {ex : List Ex} {bd el : List Sm} {d : Int} (hb : Below B w0 w) (hB : B ≤ w.heap.size) (hp : Xap w Bc Ba B u T) (hd0 : 0 ≤ d) (hd : d ≤ 24) (hr : Xbd w0 B ex V) (hnl : nm.length ≤ 40000) (htl : ty.length ≤ 40000)
  (hbd : Xao w0 B bd bv) (hel : Xao w0 B el ev) (hbs : ∃ A c, bv = .slice A bd.length c) (hes : ∃ A c, ev = .slice A el.length c) (hq : ¬ Xam nm = true) :
  Calls Tryz.prog 58 #[penV Bc Ba, .agg #[.int .i64 5, .int .i64 p, .string (Xaa nm), .string (Xaa ty), V, bv, ev], .int .i64 d] w (Xal w Bc Ba B u (adv T (penS (.mk 5 p nm ty ex bd el) d))) := by
 have hmf : ∀ (fn : Fn) (first cap : Array Value) (w : World), (Instr.makeFunc fn first cap).run Tryz.prog w = .ok (.func fn first cap) w := fun _ _ _ _ => rfl
 obtain ⟨A, c, hrv, _, _, _⟩ := id hr
 subst hrv
 obtain ⟨Ab, cb, hbv⟩ := hbs
 subst hbv
 obtain ⟨Ae, ce, hev⟩ := hes
 subst hev
 obtain ⟨X, hX⟩ : ∃ X : World, X = ((w.alloc (.cells #[penV Bc Ba] 49)).alloc (.cells #[.int .i64 5, .int .i64 p, .string (Xaa nm), .string (Xaa ty), .slice A ex.length c, .slice Ab bd.length cb, .slice Ae el.length ce] 38)).alloc (.cells #[.int .i64 d] 3) := ⟨_, rfl⟩
 obtain ⟨g, hg⟩ : ∃ g, g = w.heap.size := ⟨_, rfl⟩
 obtain ⟨hf, hsz⟩ := Xct hX hg
 have hw : Went w Bc Ba B u X u T := by rw [hX]; exact (((Went.refl hp).alloc _).alloc _).alloc _
 have e0 := hf.sm.c0
 have hg1 : Bc < g := by rw [hg]; exact Xab hp.cnt
 have hg2 : Ba < g := by rw [hg]; exact Xab hp.buf
 have hBg : B ≤ g := by rw [hg]; exact hB
 have hwg : w.heap.size ≤ g := by rw [hg]; exact Nat.le_refl _
 have hd50 : d ≤ 50 := by omega
 have HEQ := lh (congrArg (adv T) ((Xhr p nm ty ex bd el d 5 (.inl rfl)).trans (Xaz hq _)))
 have HXS : Hid (g + 1 + 1 + 1 = X.heap.size) := lh (by rw [hsz])
 have HX := lh hX
 have HG := lh hg
 have HF := lh hf
 have HW := lh hw
 have HR := lh hr
 clear hX hg hf hw hsz hr
 unfold penV at HX ⊢
 go_enter Tryz.func58, Tryz.ntmps58
 have HNO := HEQ
 have pc1 := (HF.out).pc
 have dc1 := (HF.out).dc
 go_wp2_with fail
 rw [← HX.out, ← HG.out]
 refine wp_region_held_drew (S := fun w' => w'.cell? ⟨g, 0, none⟩ = some (.func (.func 27) #[] #[.pointer (some ⟨Bc, 0, none⟩), .pointer (some ⟨Ba, 0, none⟩)])) (by kernel_rfl) pc1 (fun hHeld => ?_)
 have HWd2 := lh ((HW.out).drew)
 have HFd2 := lh ((HF.out).drew)
 refine wpAnyH_take (i := 0) (oi := _) (v := .func (.func 27) #[] #[.pointer (some ⟨Bc, 0, none⟩), .pointer (some ⟨Ba, 0, none⟩)]) rfl (by kernel_rfl) (by kernel_rfl) (by kernel_rfl) (fun _ _ _ h => h) (Or.inl ⟨by rfl, fun w hS => ?_⟩) hHeld ?_
 · go_simp
 simp only [Act.put]
 refine wpAnyH_take (i := 1) (oi := _) (v := .func (.func 68) #[] #[.pointer (some ⟨g + 1, 0, none⟩)]) rfl (by kernel_rfl) (by kernel_rfl) (by kernel_rfl) (fun _ _ _ h => h) (Or.inl ⟨by rfl, fun w hS => ?_⟩) hHeld ?_
 · go_simp
 simp only [Act.put]
 refine wpAnyH_ready (rs := [2]) (by kernel_rfl) (by simp) ?_
 refine AllReadyH.cons rfl (fun K hK => ?_) AllReadyH.nil
 go_simp
 refine (Xkj (HFd2.out) hnl (by simpa using hq)).mono ?_
 rintro e3 w3 ⟨rfl, hbl⟩
 have HCH := lh ((HWd2.out).2.2.trans (Chg.of_below (P := fun _ => False) hbl) (fun _ _ e => e.elim))
 unfold boom
 go_wp2
 refine ⟨rfl, ?_⟩
 rw [HNO.out]
 exact ⟨rfl, HCH.out⟩
set_option maxRecDepth 100000 in
set_option maxHeartbeats 4000000 in
theorem stmt_4 {w0 w : World} {Bc Ba B : Nat} {u : Value} {T : List (List UInt8)} {p : Int} {nm ty : List UInt8} {V bv ev : Value} {ex : List Ex} {bd el : List Sm} {d : Int} (hb : Below B w0 w) (hB : B ≤ w.heap.size) (hp : Xap w Bc Ba B u T) (hd0 : 0 ≤ d) (hd : d ≤ 24) (hr : Xbd w0 B ex V) (hnl : nm.length ≤ 40000) (htl : ty.length ≤ 40000)
  (hbd : Xao w0 B bd bv) (hel : Xao w0 B el ev) (hbs : ∃ A c, bv = .slice A bd.length c) (hes : ∃ A c, ev = .slice A el.length c) :
  Calls Tryz.prog 58 #[penV Bc Ba, .agg #[.int .i64 4, .int .i64 p, .string (Xaa nm), .string (Xaa ty), V, bv, ev], .int .i64 d] w (Xal w Bc Ba B u (adv T (penS (.mk 4 p nm ty ex bd el) d))) := by
 have hmf : ∀ (fn : Fn) (first cap : Array Value) (w : World), (Instr.makeFunc fn first cap).run Tryz.prog w = .ok (.func fn first cap) w := fun _ _ _ _ => rfl
 obtain ⟨A, c, hrv, _, _, _⟩ := id hr
 subst hrv
 obtain ⟨Ab, cb, hbv⟩ := hbs
 subst hbv
 obtain ⟨Ae, ce, hev⟩ := hes
 subst hev
 obtain ⟨X, hX⟩ : ∃ X : World, X = ((w.alloc (.cells #[penV Bc Ba] 49)).alloc (.cells #[.int .i64 4, .int .i64 p, .string (Xaa nm), .string (Xaa ty), .slice A ex.length c, .slice Ab bd.length cb, .slice Ae el.length ce] 38)).alloc (.cells #[.int .i64 d] 3) := ⟨_, rfl⟩
 obtain ⟨g, hg⟩ : ∃ g, g = w.heap.size := ⟨_, rfl⟩
 obtain ⟨hf, hsz⟩ := Xct hX hg
 have hw : Went w Bc Ba B u X u T := by rw [hX]; exact (((Went.refl hp).alloc _).alloc _).alloc _
 have e0 := hf.sm.c0
 have hg1 : Bc < g := by rw [hg]; exact Xab hp.cnt
 have hg2 : Ba < g := by rw [hg]; exact Xab hp.buf
 have hBg : B ≤ g := by rw [hg]; exact hB
 have hwg : w.heap.size ≤ g := by rw [hg]; exact Nat.le_refl _
 have hd50 : d ≤ 50 := by omega
 have HEQ := lh (congrArg (adv T) (penS_4 p nm ty ex bd el d))
 have HXS : Hid (g + 1 + 1 + 1 = X.heap.size) := lh (by rw [hsz])
 have HX := lh hX
 have HG := lh hg
 have HF := lh hf
 have HW := lh hw
 have HR := lh hr
 clear hX hg hf hw hsz hr
 unfold penV at HX ⊢
 go_enter Tryz.func58, Tryz.ntmps58
 have pc1 := (HF.out).pc
 have dc1 := (HF.out).dc
 go_wp2_with fail
 rw [← HX.out, ← HG.out, HXS.out]
 refine (Xaq (Went.refl (HW.out).1) (Nat.le_trans hB (HW.out).2.2.size) [Xbf 4] (by intro t ht; simp at ht; have := hnl; have := htl; first | (rcases ht with rfl | rfl | rfl | rfl <;> first | decide | assumption | simp) | (rcases ht with rfl | rfl | rfl <;> first | decide | assumption | simp) | (rcases ht with rfl | rfl <;> first | decide | assumption | simp) | (rw [ht]; first | decide | assumption) | (rw [ht]; simp)) (by simp)).mono ?_
 rintro e2 w2 hpost
 cases hR : adv T (some [Xbf 4]) with
 | none =>
   rw [hR] at hpost
   obtain ⟨rfl, hch⟩ := hpost
   have HNO := lh ((HEQ.out).trans (Xad hR _))
   have HCH := lh ((HW.out).fell hch)
   clear hR hch
   unfold boom
   go_wp2
   refine ⟨rfl, ?_⟩
   rw [HNO.out]
   exact ⟨rfl, HCH.out⟩
 | some T2 =>
   rw [hR] at hpost
   obtain ⟨rfl, u2, hwent⟩ := hpost
   have HW2 := lh ((HW.out).trans hwent)
   have HF2 := lh ((HF.out).went (HW.out).1 hg1 hg2 hwent)
   have HEQ2 := lh ((HEQ.out).trans (Xae hR _))
   clear hwent hR
   have pc3 := (HF2.out).pc
   have dc3 := (HF2.out).dc
   go_wp2_with fail
   refine (Xmh (hb.trans ((HW2.out).2.2.below hB (fun x hx => (hp.mine hx).1))) hBg hg1 hg2 (HW2.out).1 (HF2.out) (HR.out) hd0 hd50).mono ?_
   rintro e4 w4 hpost
   cases hR : adv T2 (argC ex d []) with
   | none =>
     rw [hR] at hpost
     obtain ⟨rfl, hch⟩ := hpost
     have HNO := lh ((HEQ2.out).trans (Xad hR _))
     have HCH := lh ((HW2.out).fell_fr hwg hch)
     clear hR hch
     unfold boom
     go_wp2
     refine ⟨rfl, ?_⟩
     rw [HNO.out]
     exact ⟨rfl, HCH.out⟩
   | some T4 =>
     rw [hR] at hpost
     obtain ⟨rfl, u4, V4, hpA, hown, hch, hfr, hrd⟩ := hpost
     obtain ⟨A4, c4, hV, _, _, _⟩ := id hrd
     subst hV
     have HW4 := lh ((HW2.out).fr hwg hpA hown hch)
     have HF4 := lh hfr
     have HR4 := lh hrd
     have HEQ4 := lh ((HEQ2.out).trans (Xae hR _))
     clear hpA hown hch hfr hrd hR
     have pc5 := (HF4.out).pc
     have dc5 := (HF4.out).dc
     go_wp2_with fail
     refine (Xmg (hb.trans ((HW4.out).2.2.below hB (fun x hx => (hp.mine hx).1))) hBg hg1 hg2 (HW4.out).1 (HF4.out) hbd hd0 hd50).mono ?_
     rintro e6 w6 hpost
     cases hR : adv T4 (penB bd (d + 1)) with
     | none =>
       rw [hR] at hpost
       obtain ⟨rfl, hch⟩ := hpost
       have HNO := lh ((HEQ4.out).trans (Xad hR _))
       have HCH := lh ((HW4.out).fell_fr hwg hch)
       clear hR hch
       unfold boom
       go_wp2
       refine ⟨rfl, ?_⟩
       rw [HNO.out]
       exact ⟨rfl, HCH.out⟩
     | some T6 =>
       rw [hR] at hpost
       obtain ⟨rfl, u6, hpA, hown, hch, hfr⟩ := hpost
       have HW6 := lh ((HW4.out).fr hwg hpA hown hch)
       have HF6 := lh hfr
       have HEQ6 := lh ((HEQ4.out).trans (Xae hR _))
       clear hpA hown hch hfr hR
       have c2 := (HF6.out).sm.c2
       have c3 := (HF6.out).sm.c3
       have c4 := (HF6.out).sm.c4
       have c5 := (HF6.out).sm.c5
       have c6 := (HF6.out).sm.c6
       have hz0 : (Xaa []).toList = [] := Xaf []
       obtain ⟨m, hm⟩ : ∃ m, m = (ex.tail).length := ⟨_, rfl⟩
       rw [← hm] at c4
       obtain ⟨ne, hne⟩ : ∃ m, m = el.length := ⟨_, rfl⟩
       rw [← hne] at c6
       by_cases hn : nm = []
       case neg =>
        have HNO := lh ((HEQ6.out).trans (show adv T6 (need _ (some [])) = none from by rw [Xag (fun h => hn h.1)]; rfl))
        have hs1 : ¬ (Xaa nm).toList = [] := by rw [Xaf]; exact hn
        clear hm hne hn
        go_wp2_with fail
        refine (Xah _).mono ?_
        rintro e9 w9 ⟨rfl, rfl⟩
        unfold boom
        go_wp2
        refine ⟨rfl, ?_⟩
        rw [HNO.out]
        exact ⟨rfl, (HW6.out).2.2⟩
       by_cases ht : ty = []
       case neg =>
        have HNO := lh ((HEQ6.out).trans (show adv T6 (need _ (some [])) = none from by rw [Xag (fun h => ht h.2.1)]; rfl))
        subst hn
        have hs1 : ¬ (Xaa ty).toList = [] := by rw [Xaf]; exact ht
        clear hm hne ht
        go_wp2_with fail
        refine (Xah _).mono ?_
        rintro e9 w9 ⟨rfl, rfl⟩
        unfold boom
        go_wp2
        refine ⟨rfl, ?_⟩
        rw [HNO.out]
        exact ⟨rfl, (HW6.out).2.2⟩
       by_cases hx : (ex.tail).length = 0
       case neg =>
        have HNO := lh ((HEQ6.out).trans (show adv T6 (need _ (some [])) = none from by rw [Xag (fun h => hx h.2.2.1)]; rfl))
        subst hn
        subst ht
        have hl1 : (m == 0) = false := by rw [beq_eq_false_iff_ne]; omega
        have hl2 : ((m : Int) == 0) = false := by rw [beq_eq_false_iff_ne]; omega
        clear hm hne hx
        go_wp2_with fail
        refine (Xah _).mono ?_
        rintro e9 w9 ⟨rfl, rfl⟩
        unfold boom
        go_wp2
        refine ⟨rfl, ?_⟩
        rw [HNO.out]
        exact ⟨rfl, (HW6.out).2.2⟩
       by_cases hel0 : el.length = 0
       case neg =>
        have HNO := lh ((HEQ6.out).trans (show adv T6 (need _ (some [])) = none from by rw [Xag (fun h => hel0 h.2.2.2)]; rfl))
        subst hn
        subst ht
        obtain rfl : m = 0 := by omega
        have hl1 : (ne == 0) = false := by rw [beq_eq_false_iff_ne]; omega
        have hl2 : ((ne : Int) == 0) = false := by rw [beq_eq_false_iff_ne]; omega
        clear hm hne hx hel0
        go_wp2_with fail
        refine (Xah _).mono ?_
        rintro e9 w9 ⟨rfl, rfl⟩
        unfold boom
        go_wp2
        refine ⟨rfl, ?_⟩
        rw [HNO.out]
        exact ⟨rfl, (HW6.out).2.2⟩
       have HFIN := lh ((HEQ6.out).trans (show adv T6 (need _ (some [])) = some T6 from by rw [Xai ⟨hn, ht, hx, hel0⟩]; exact Xbe (HW6.out).1.fit))
       subst hn
       subst ht
       obtain rfl : m = 0 := by omega
       obtain rfl : ne = 0 := by omega
       clear hm hne hx hel0
       go_wp2_with fail
       refine (Xaj _).mono ?_
       rintro e9 w9 ⟨rfl, rfl⟩
       go_wp2
       go_end0
       rw [HFIN.out]
       exact ⟨rfl, _, HW6.out⟩
end Go.Proofs.YtodociiaobjfgaaGreatDoor
