/- Wa -/
import Derived.Test.YtihjdfbdpcghdaaDoorZc5
import Derived.Test.YtihjdfbdpcghdaaDoorZc7
import Derived.IntWalk
set_option linter.unusedVariables false
namespace Go.Proofs.YtihjdfbdpcghdaaDoor
open Go.RowKit
def WritesB (w0 : World) (B : Nat) (ss : List Sm) (V : Value) : Prop :=
  ∀ (w : World) (Bc Ba : Nat) (u : Value) (T : List (List UInt8)) (d : Int), Below B w0 w → B ≤ w.heap.size → PenAt w Bc Ba B u T → 0 ≤ d → d ≤ 100 →
    Calls Tryd.prog 54 #[penV Bc Ba, V, .int .i64 d] w (PenPost w Bc Ba B u (adv T (penB ss d)))
structure StFr (w : World) (g Bc Ba : Nat) (k p : Int) (nm ty : List UInt8) (V bv ev : Value) (d : Int) : Prop where
  put : w.heap[g]? = some (.cells #[penV Bc Ba] 50 (0, 0))
  sm : SmBlk w (g + 1) k p (strOf nm) (strOf ty) V bv ev
  dp : w.heap[g + 1 + 1]? = some (.cells #[.int .i64 d] 3 (0, 0))
def InSt (g b : Nat) : Prop := b = g ∨ b = g + 1 ∨ b = g + 1 + 1
section
variable {w w' w1 w2 : World} {g Bc Ba B : Nat} {k p : Int} {nm ty : List UInt8} {V bv ev u v1 : Value} {d : Int} {T T1 : List (List UInt8)}
theorem StFr.pc (h : StFr w g Bc Ba k p nm ty V bv ev d) : w.cell? ⟨g, 0, none⟩ = some (.func (.func 26) #[] #[.pointer (some ⟨Bc, 0, none⟩), .pointer (some ⟨Ba, 0, none⟩)]) := by
  rw [cell_of_row w g 0 _ _ (0, 0) h.put]; rfl
theorem StFr.dc (h : StFr w g Bc Ba k p nm ty V bv ev d) : w.cell? ⟨g + 1 + 1, 0, none⟩ = some (.int .i64 d) := by
  rw [cell_of_row w (g + 1 + 1) 0 _ _ (0, 0) h.dp]; rfl
theorem StFr.apart (h : StFr w g Bc Ba k p nm ty V bv ev d) (hp : PenAt w Bc Ba B u T) (h1 : Bc < g) (h2 : Ba < g) {b : Nat} (hb : InSt g b) : ¬ Mine Bc Ba u b := by
  rintro (e | e | e)
  · rcases hb with hb | hb | hb <;> omega
  · rcases hb with hb | hb | hb <;> omega
  · obtain ⟨_, cur, hg⟩ := hp.own.blk e
    rcases hb with rfl | rfl | rfl
    · rw [h.put] at hg; simp at hg
    · have := h.sm; unfold SmBlk at this; rw [this] at hg; simp at hg
    · rw [h.dp] at hg; simp at hg
theorem StFr.lt (h : StFr w g Bc Ba k p nm ty V bv ev d) {b : Nat} (hb : InSt g b) : b < w.heap.size := by
  rcases hb with rfl | rfl | rfl
  · exact lt_of_heap h.put
  · exact lt_of_heap h.sm
  · exact lt_of_heap h.dp
theorem StFr.keep (h : StFr w g Bc Ba k p nm ty V bv ev d) (hk : ∀ b, InSt g b → w'.heap[b]? = w.heap[b]?) : StFr w' g Bc Ba k p nm ty V bv ev d :=
  ⟨(hk _ (.inl rfl)).trans h.put, (hk _ (.inr (.inl rfl))).trans h.sm, (hk _ (.inr (.inr rfl))).trans h.dp⟩
theorem StFr.below (h : StFr w g Bc Ba k p nm ty V bv ev d) (hb : Below w.heap.size w w') : StFr w' g Bc Ba k p nm ty V bv ev d := h.keep fun b hb' => hb.block b (h.lt hb')
theorem StFr.drew (h : StFr w g Bc Ba k p nm ty V bv ev d) : StFr w.drew g Bc Ba k p nm ty V bv ev d := h.keep fun _ _ => rfl
theorem StFr.went (h : StFr w g Bc Ba k p nm ty V bv ev d) (hp : PenAt w Bc Ba B u T) (h1 : Bc < g) (h2 : Ba < g) (hw : Went w Bc Ba B u w1 v1 T1) : StFr w1 g Bc Ba k p nm ty V bv ev d :=
  h.keep fun b hb => hw.2.2.block b (h.lt hb) (h.apart hp h1 h2 hb)
theorem StFr.set2 (h : StFr w g Bc Ba k p nm ty V bv ev d) (t : List UInt8) : StFr (w.setCell ⟨g + 1, 2, none⟩ (.string (strOf t))) g Bc Ba k p t ty V bv ev d := by
  refine ⟨(Below.heap_setCell _ _ _ _ (show g ≠ g + 1 by omega)).trans h.put, ?_, (Below.heap_setCell _ _ _ _ (show g + 1 + 1 ≠ g + 1 by omega)).trans h.dp⟩
  have := h.sm
  unfold SmBlk at this ⊢
  simp [World.setCell, Array.getElem?_modify, this]
theorem StFr.set3 (h : StFr w g Bc Ba k p nm ty V bv ev d) (t : List UInt8) : StFr (w.setCell ⟨g + 1, 3, none⟩ (.string (strOf t))) g Bc Ba k p nm t V bv ev d := by
  refine ⟨(Below.heap_setCell _ _ _ _ (show g ≠ g + 1 by omega)).trans h.put, ?_, (Below.heap_setCell _ _ _ _ (show g + 1 + 1 ≠ g + 1 by omega)).trans h.dp⟩
  have := h.sm
  unfold SmBlk at this ⊢
  simp [World.setCell, Array.getElem?_modify, this]
theorem StFr.set4 (h : StFr w g Bc Ba k p nm ty V bv ev d) (X : Value) : StFr (w.setCell ⟨g + 1, 4, none⟩ X) g Bc Ba k p nm ty X bv ev d := by
  refine ⟨(Below.heap_setCell _ _ _ _ (show g ≠ g + 1 by omega)).trans h.put, ?_, (Below.heap_setCell _ _ _ _ (show g + 1 + 1 ≠ g + 1 by omega)).trans h.dp⟩
  have := h.sm
  unfold SmBlk at this ⊢
  simp [World.setCell, Array.getElem?_modify, this]
theorem StFr.set5 (h : StFr w g Bc Ba k p nm ty V bv ev d) (X : Value) : StFr (w.setCell ⟨g + 1, 5, none⟩ X) g Bc Ba k p nm ty V X ev d := by
  refine ⟨(Below.heap_setCell _ _ _ _ (show g ≠ g + 1 by omega)).trans h.put, ?_, (Below.heap_setCell _ _ _ _ (show g + 1 + 1 ≠ g + 1 by omega)).trans h.dp⟩
  have := h.sm
  unfold SmBlk at this ⊢
  simp [World.setCell, Array.getElem?_modify, this]
theorem StFr.set6 (h : StFr w g Bc Ba k p nm ty V bv ev d) (X : Value) : StFr (w.setCell ⟨g + 1, 6, none⟩ X) g Bc Ba k p nm ty V bv X d := by
  refine ⟨(Below.heap_setCell _ _ _ _ (show g ≠ g + 1 by omega)).trans h.put, ?_, (Below.heap_setCell _ _ _ _ (show g + 1 + 1 ≠ g + 1 by omega)).trans h.dp⟩
  have := h.sm
  unfold SmBlk at this ⊢
  simp [World.setCell, Array.getElem?_modify, this]
end
def StPost (w0 w : World) (g Bc Ba B : Nat) (u : Value) (k p : Int) (nm ty : List UInt8) (bv ev : Value) (d : Int) (rest : List Ex) (R : Ts) (e : Ending) (w' : World) : Prop := match R with
  | none => e = boom ∧ Chg (fun b => Mine Bc Ba u b ∨ b = g + 1) w w'
  | some T' => e = .returned (.tuple #[]) ∧ ∃ u' V', PenAt w' Bc Ba B u' T' ∧ (∀ b, u'.ownBlock = some b → u.ownBlock = some b ∨ w.heap.size ≤ b) ∧ Chg (fun b => Mine Bc Ba u b ∨ b = g + 1) w w' ∧
      StFr w' g Bc Ba k p nm ty V' bv ev d ∧ Reads w0 B rest V'
theorem ste_yes {w0 w : World} {g Bc Ba B : Nat} {u : Value} {T : List (List UInt8)} {k p : Int} {nm ty : List UInt8} {V bv ev : Value} {d : Int} {e : Ex} {es : List Ex} (hb : Below B w0 w) (hB : B ≤ g) (hg1 : Bc < g) (hg2 : Ba < g) (hp : PenAt w Bc Ba B u T)
    (hf : StFr w g Bc Ba k p nm ty V bv ev d) (hr : Reads w0 B (e :: es) V) (hd0 : 0 ≤ d) (hd : d ≤ 50) (ts : List (List UInt8)) (tv : Value) (hts : StrsAt w (fun b => Mine Bc Ba u b ∨ b = g + 1) tv ts) :
    Calls Tryd.prog 71 #[tv, .pointer (some ⟨g, 0, none⟩), .pointer (some ⟨g + 1, 0, none⟩), .pointer (some ⟨g + 1 + 1, 0, none⟩)] w (StPost w0 w g Bc Ba B u k p nm ty bv ev d es (adv T (cat (penE e (d + 1) 0) (some ts)))) := by
  obtain ⟨A, c, rfl, hc, hM, hA⟩ := hr
  obtain ⟨b, off, A5, n5, c5, rfl, hbB, hnm, r0, r1, r2, r3, r4, hWr⟩ := hA 0 (by simp)
  have hrt := hA
  have q0 := cell_of_row w g 0 _ _ (0, 0) hf.put
  have q1 := cell_of_row w (g + 1 + 1) 0 _ _ (0, 0) hf.dp
  have q4 := hf.sm.c4
  have z4 := hf.sm.fr 4
  have up : ∀ {i : Nat} {v : Value}, w0.cell? ⟨b, i, none⟩ = some v → w.cell? ⟨b, i, none⟩ = some v := fun h => (hb.cell hbB).trans h
  have r0 := up r0
  have r1 := up r1
  have r2 := up r2
  have r3 := up r3
  have r4 := up r4
  rw [Nat.zero_mul, Nat.add_zero] at r0 r1 r2 r3 r4
  simp only [List.getElem_cons_zero] at r0 r1 r2 r3 r4 hWr hnm
  have htf := takeFirst_yes ⟨g + 1, 4, none⟩ b off es.length c w.drew _ _ _ _ _ _ _ q4 z4 hc r0 r1 r2 r3 r4
  unfold penV at q0
  simp at q0 q1
  have hwr : IntKind.i64.wrap (d + 1) = d + 1 := IntWalk.i64_in _ ⟨by omega, by omega⟩
  have HTF := Lib.hid htf
  have HWR := Lib.hid hWr
  clear htf hWr r0 r1 r2 r3 r4 q4 z4 hA
  go_enter Tryd.func71, Tryd.ntmps71
  go_wp2_with fail
  refine wp_region_held_drew (S := fun w' => w'.cell? ⟨g, 0, none⟩ = some (.func (.func 26) #[] #[.pointer (some ⟨Bc, 0, none⟩), .pointer (some ⟨Ba, 0, none⟩)]) ∧ w'.cell? ⟨g + 1 + 1, 0, none⟩ = some (.int .i64 d)) (by kernel_rfl) ⟨q0, q1⟩ (fun hHeld => ?_)
  refine wpAnyH_take (i := 0) (oi := _) (v := .func (.func 26) #[] #[.pointer (some ⟨Bc, 0, none⟩), .pointer (some ⟨Ba, 0, none⟩)]) rfl (by kernel_rfl) (by kernel_rfl) (by kernel_rfl) (fun _ _ _ h => h) (Or.inl ⟨by rfl, fun w hS => ?_⟩) hHeld ?_
  · obtain ⟨h1, h2⟩ := hS
    go_simp
  simp only [Act.put]
  refine wpAnyH_take (i := 1) (oi := _) (v := .pointer (some ⟨g + 1, 4, none⟩)) rfl (by kernel_rfl) (by kernel_rfl) (by kernel_rfl) (fun _ _ _ h => h) (Or.inl ⟨by rfl, fun w hS => ?_⟩) hHeld ?_
  · go_simp
  simp only [Act.put]
  refine wpAnyH_take (i := 3) (oi := _) (v := .int .i64 d) rfl (by kernel_rfl) (by kernel_rfl) (by kernel_rfl) (fun _ _ _ h => h) (Or.inl ⟨by rfl, fun w hS => ?_⟩) hHeld ?_
  · obtain ⟨h1, h2⟩ := hS
    go_simp
  simp only [Act.put]
  refine wpAnyH_take (i := 4) (oi := _) (v := .int .i64 (d + 1)) rfl (by kernel_rfl) (by kernel_rfl) (by kernel_rfl) (fun _ _ _ h => h) (Or.inl ⟨by rfl, fun w hS => ?_⟩) hHeld ?_
  · go_simp
  simp only [Act.put]
  refine wpAnyH_ready (rs := [2]) (by kernel_rfl) (by simp) ?_
  refine AllReadyH.cons rfl (fun K hK => ?_) AllReadyH.nil
  go_simp
  refine HTF.out.mono ?_
  rintro e1 w1 ⟨rfl, wm, off', hbm, hbm2, ho⟩
  have hdr : Below w.heap.size w w.drew := Below.drew (Below.refl _ w)
  have hbm : Below w.heap.size w wm := hdr.trans hbm
  have hbm2 : Below w.heap.size (wm.setCell ⟨g + 1, 4, none⟩ (.slice (some ⟨b, off', none⟩) es.length (c - 1))) w1 := hbm2
  have hnm1 := hf.apart hp hg1 hg2 (b := g + 1) (.inr (.inl rfl))
  have hf1 : StFr w1 g Bc Ba k p nm ty (.slice (some ⟨b, off', none⟩) es.length (c - 1)) bv ev d := ((hf.below hbm).set4 _).keep fun x hx => hbm2.block x (hf.lt hx)
  have hp1 : PenAt w1 Bc Ba B u T := hp.put_ (p := ⟨g + 1, 4, none⟩) hbm hnm1 hbm2
  have hch1 : Chg (fun b => Mine Bc Ba u b ∨ b = g + 1) w w1 := Chg.put_ (p := ⟨g + 1, 4, none⟩) hbm (.inr rfl) hbm2
  have hBw : B ≤ w.heap.size := Nat.le_trans hB (Nat.le_of_lt (hf.lt (.inl rfl)))
  have hmB : ∀ x, (Mine Bc Ba u x ∨ x = g + 1) → B ≤ x := fun x hx => by
    rcases hx with hx | hx
    · exact (hp.mine hx).1
    · omega
  have hb1 : Below B w0 w1 := hb.trans (hch1.below hBw hmB)
  have hr1 := Reads.tail (off' := off') (c := c) ⟨_, _, rfl, hc, hM, hrt⟩ ho
  have k0 := cell_of_row w1 g 0 _ _ (0, 0) hf1.put
  have k1 := cell_of_row w1 (g + 1 + 1) 0 _ _ (0, 0) hf1.dp
  unfold penV at k0
  simp at k0 k1
  have HF1 := Lib.hid hf1
  have HP1 := Lib.hid hp1
  have HC1 := Lib.hid hch1
  have HR1 := Lib.hid hr1
  have hcall := HWR.out w1 Bc Ba u T (d + 1) 0 hb1 (Nat.le_trans hBw hch1.size) hp1 (by omega) (by omega) (by omega) (by omega)
  have hs1 : StrsAt w1 (fun b => Mine Bc Ba u b ∨ b = g + 1) tv ts := by
    obtain ⟨A, c, h1, h2, h3, h4⟩ := hts
    exact ⟨A, c, h1, h2, h3, fun k hk => let ⟨b, off, x1, x2, x3, x4⟩ := h4 k hk; ⟨b, off, x1, x2, x3, hch1.cell x4 x2⟩⟩
  have HS1 := Lib.hid hs1
  have HCALL := Lib.hid hcall
  clear hf1 hp1 hch1 hr1 hcall hs1 hrt hts hbm hbm2 hdr
  go_wp2_with fail
  refine hK.out _ _ ⟨k0, k1⟩ (fun hHeld => ?_)
  clear hK K
  refine wpAnyH_ready (rs := [5]) (by kernel_rfl) (by simp) ?_
  refine AllReadyH.cons rfl (fun K hK => ?_) AllReadyH.nil
  go_simp
  refine HCALL.out.mono ?_
  rintro e2 w2 hpost
  cases hR : adv T (penE e (d + 1) 0) with
  | none =>
    rw [hR] at hpost
    obtain ⟨rfl, hch2⟩ := hpost
    have HR := Lib.hid (adv_cat_none hR (some ts))
    have hch : Chg (fun b => Mine Bc Ba u b ∨ b = g + 1) w w2 := HC1.out.trans hch2 (fun x _ hx => .inl hx)
    have HCH := Lib.hid hch
    clear hR hch2 hch
    unfold boom
    go_wp2
    refine ⟨rfl, ?_⟩
    rw [HR.out]
    exact ⟨rfl, HCH.out⟩
  | some T2 =>
    rw [hR] at hpost
    obtain ⟨rfl, u2, hwent⟩ := hpost
    have HEQ := Lib.hid (adv_cat_some hR (some ts))
    have hf2 := HF1.out.went HP1.out hg1 hg2 hwent
    have hs2 := HS1.out.went hwent
    have k02 := cell_of_row w2 g 0 _ _ (0, 0) hf2.put
    have k12 := cell_of_row w2 (g + 1 + 1) 0 _ _ (0, 0) hf2.dp
    unfold penV at k02
    simp at k02 k12
    have hB2 : B ≤ w2.heap.size := Nat.le_trans (Nat.le_trans hBw HC1.out.size) hwent.2.2.size
    have hput := put_any hwent.1 hB2 ts tv hs2
    have HPUT := Lib.hid hput
    have HW2 := Lib.hid hwent
    have HF2 := Lib.hid hf2
    clear hwent hf2 hs2 hput hR k0 k1
    go_wp2_with fail
    refine hK.out _ _ ⟨k02, k12⟩ (fun hHeld => ?_)
    clear hK K
    refine wpAnyH_done (by kernel_rfl) ?_ _
    go_wp2_with fail
    refine HPUT.out.mono ?_
    rintro e3 w3 hpost
    cases hR : adv T2 (some ts) with
    | none =>
      rw [hR] at hpost
      obtain ⟨rfl, hch3⟩ := hpost
      have HR := Lib.hid (HEQ.out.trans hR)
      have hch : Chg (fun b => Mine Bc Ba u b ∨ b = g + 1) w w3 := HC1.out.trans (HW2.out.fell hch3) (fun x _ hx => .inl hx)
      have HCH := Lib.hid hch
      clear hR hch3 hch
      unfold boom
      go_wp2
      refine ⟨rfl, ?_⟩
      rw [HR.out]
      exact ⟨rfl, HCH.out⟩
    | some T3 =>
      rw [hR] at hpost
      obtain ⟨rfl, u3, hwent⟩ := hpost
      have HR := Lib.hid (HEQ.out.trans hR)
      have hf3 := HF2.out.went HW2.out.1 hg1 hg2 hwent
      have hw13 := HW2.out.trans hwent
      have HW13 := Lib.hid hw13
      have HF3 := Lib.hid hf3
      have HSZ := Lib.hid HC1.out.size
      clear hwent hf3 hw13 hR
      go_wp2
      go_end0
      rw [HR.out]
      refine ⟨rfl, u3, _, HW13.out.1, fun x hx => ?_, HC1.out.trans HW13.out.2.2 (fun x _ hx => .inl hx), HF3.out, HR1.out⟩
      rcases HW13.out.2.1 x hx with h | h
      · exact .inl h
      · exact .inr (Nat.le_trans HSZ.out h)
theorem ste_no {w0 w : World} {g Bc Ba B : Nat} {u : Value} {T : List (List UInt8)} {k p : Int} {nm ty : List UInt8} {V bv ev : Value} {d : Int} (hb : Below B w0 w) (hB : B ≤ g) (hg1 : Bc < g) (hg2 : Ba < g) (hp : PenAt w Bc Ba B u T)
    (hf : StFr w g Bc Ba k p nm ty V bv ev d) (hr : Reads w0 B [] V) (hd0 : 0 ≤ d) (hd : d ≤ 50) (ts : List (List UInt8)) (tv : Value) (hts : StrsAt w (fun b => Mine Bc Ba u b ∨ b = g + 1) tv ts) :
    Calls Tryd.prog 71 #[tv, .pointer (some ⟨g, 0, none⟩), .pointer (some ⟨g + 1, 0, none⟩), .pointer (some ⟨g + 1 + 1, 0, none⟩)] w (StPost w0 w g Bc Ba B u k p nm ty bv ev d [] none) := by
  obtain ⟨A, c, rfl, hc, hM, hA⟩ := hr
  have q0 := cell_of_row w g 0 _ _ (0, 0) hf.put
  have q1 := cell_of_row w (g + 1 + 1) 0 _ _ (0, 0) hf.dp
  have q4 := hf.sm.c4
  have htf := takeFirst_no ⟨g + 1, 4, none⟩ A c w.drew q4
  unfold penV at q0
  simp at q0 q1
  have hwr : IntKind.i64.wrap (d + 1) = d + 1 := IntWalk.i64_in _ ⟨by omega, by omega⟩
  have HTF := Lib.hid htf
  clear htf q4
  go_enter Tryd.func71, Tryd.ntmps71
  go_wp2_with fail
  refine wp_region_held_drew (S := fun w' => w'.cell? ⟨g, 0, none⟩ = some (.func (.func 26) #[] #[.pointer (some ⟨Bc, 0, none⟩), .pointer (some ⟨Ba, 0, none⟩)]) ∧ w'.cell? ⟨g + 1 + 1, 0, none⟩ = some (.int .i64 d)) (by kernel_rfl) ⟨q0, q1⟩ (fun hHeld => ?_)
  refine wpAnyH_take (i := 0) (oi := _) (v := .func (.func 26) #[] #[.pointer (some ⟨Bc, 0, none⟩), .pointer (some ⟨Ba, 0, none⟩)]) rfl (by kernel_rfl) (by kernel_rfl) (by kernel_rfl) (fun _ _ _ h => h) (Or.inl ⟨by rfl, fun w hS => ?_⟩) hHeld ?_
  · obtain ⟨h1, h2⟩ := hS
    go_simp
  simp only [Act.put]
  refine wpAnyH_take (i := 1) (oi := _) (v := .pointer (some ⟨g + 1, 4, none⟩)) rfl (by kernel_rfl) (by kernel_rfl) (by kernel_rfl) (fun _ _ _ h => h) (Or.inl ⟨by rfl, fun w hS => ?_⟩) hHeld ?_
  · go_simp
  simp only [Act.put]
  refine wpAnyH_take (i := 3) (oi := _) (v := .int .i64 d) rfl (by kernel_rfl) (by kernel_rfl) (by kernel_rfl) (fun _ _ _ h => h) (Or.inl ⟨by rfl, fun w hS => ?_⟩) hHeld ?_
  · obtain ⟨h1, h2⟩ := hS
    go_simp
  simp only [Act.put]
  refine wpAnyH_take (i := 4) (oi := _) (v := .int .i64 (d + 1)) rfl (by kernel_rfl) (by kernel_rfl) (by kernel_rfl) (fun _ _ _ h => h) (Or.inl ⟨by rfl, fun w hS => ?_⟩) hHeld ?_
  · go_simp
  simp only [Act.put]
  refine wpAnyH_ready (rs := [2]) (by kernel_rfl) (by simp) ?_
  refine AllReadyH.cons rfl (fun K hK => ?_) AllReadyH.nil
  go_simp
  refine HTF.out.mono ?_
  rintro e1 w1 ⟨rfl, hbm⟩
  have HB := Lib.hid hbm
  clear hbm
  unfold boom
  go_wp2
  refine ⟨rfl, rfl, ?_⟩
  exact Chg.of_below ((Below.drew (Below.refl _ w)).trans HB.out)
end Go.Proofs.YtihjdfbdpcghdaaDoor
