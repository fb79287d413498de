/- Vi -/
import Derived.Test.YtodociiaobjfgaaGreatDoorVa4
import Derived.Deep.RegionHeld3
set_option linter.unusedVariables false
set_option linter.unusedSimpArgs false
namespace Go.Proofs.YtodociiaobjfgaaGreatDoor
open Go.RowKit
section
def Xtt (w0 : World) (B : Nat) (e : Ex) (r : Value) : Prop :=
 ∀ (w : World) (Bc Ba : Nat) (u : Value) (T : List (List UInt8)) (d ch : Int), Below B w0 w → B ≤ w.heap.size → Xap w Bc Ba B u T → 0 ≤ d → d ≤ 100 → 0 ≤ ch → ch ≤ 100 →
  Calls Tryz.prog 70 #[penV Bc Ba, .agg #[.int .i64 e.kind, .int .i64 e.pl, .int .i64 e.num, .string (Xaa e.name), r], .int .i64 d, .int .i64 ch] w (Xal w Bc Ba B u (adv T (penE e d ch)))
def Xbd (w0 : World) (B : Nat) (es : List Ex) (V : Value) : Prop :=
 ∃ A c, V = .slice A es.length c ∧ es.length ≤ c ∧ c ≤ 9223372036854775807 ∧ ∀ (j : Nat) (hj : j < es.length), ∃ b off A5 n5 c5, A = some ⟨b, off, none⟩ ∧ b < B ∧ es[j].name.length ≤ 40000 ∧
  w0.cell? ⟨b, off + j * 5, none⟩ = some (.int .i64 es[j].kind) ∧ w0.cell? ⟨b, off + j * 5 + 1, none⟩ = some (.int .i64 es[j].pl) ∧ w0.cell? ⟨b, off + j * 5 + 2, none⟩ = some (.int .i64 es[j].num) ∧
  w0.cell? ⟨b, off + j * 5 + 3, none⟩ = some (.string (Xaa es[j].name)) ∧ w0.cell? ⟨b, off + j * 5 + 4, none⟩ = some (.slice A5 n5 c5) ∧ Xtt w0 B es[j] (.slice A5 n5 c5)
theorem Xbd.tail {w0 : World} {B : Nat} {e : Ex} {es : List Ex} {b off n c off' : Nat} (h : Xbd w0 B (e :: es) (.slice (some ⟨b, off, none⟩) n c)) (hoff : 0 < es.length → off' = off + 5) :
  Xbd w0 B es (.slice (some ⟨b, off', none⟩) es.length (c - 1)) := by
 obtain ⟨A, c', hv, hc, hM, hA⟩ := h
 simp only [Value.slice.injEq] at hv
 obtain ⟨rfl, hn, rfl⟩ := hv
 have hc' : es.length + 1 ≤ c := hc
 refine ⟨_, _, rfl, by omega, by omega, fun j hj => ?_⟩
 obtain ⟨b2, off2, A5, n5, c5, h1, h2, h3, r0, r1, r2, r3, r4, hw⟩ := hA (j + 1) (by simpa using hj)
 simp only [Option.some.injEq, Addr.mk.injEq, and_true] at h1
 obtain ⟨rfl, rfl⟩ := h1
 have ho := hoff (by omega)
 subst ho
 simp only [List.getElem_cons_succ] at h3 r0 r1 r2 r3 r4 hw
 have e0 : ∀ i, off + 5 + j * 5 + i = off + (j + 1) * 5 + i := fun i => by omega
 have e1 : off + 5 + j * 5 = off + (j + 1) * 5 := by omega
 exact ⟨b, off + 5, A5, n5, c5, rfl, h2, h3, by rw [e1]; exact r0, by rw [e0]; exact r1, by rw [e0]; exact r2, by rw [e0]; exact r3, by rw [e0]; exact r4, hw⟩
structure ExFr (w : World) (g Bc Ba : Nat) (k p n : Int) (s : List UInt8) (V : Value) (d ch : Int) : Prop where
 put : w.heap[g]? = some (.cells #[penV Bc Ba] 49 (0, 0))
 ex : Xbx w (g + 1) k p n (Xaa s) V
 dp : w.heap[g + 1 + 1]? = some (.cells #[.int .i64 d] 3 (0, 0))
 cn : w.heap[g + 1 + 1 + 1]? = some (.cells #[.int .i64 ch] 3 (0, 0))
def InFr (g b : Nat) : Prop := b = g ∨ b = g + 1 ∨ b = g + 1 + 1 ∨ b = g + 1 + 1 + 1
section
variable {w w' : World} {g Bc Ba B : Nat} {k p n : Int} {s : List UInt8} {V u : Value} {d ch : Int} {T : List (List UInt8)}
theorem ExFr.nm (h : ExFr w g Bc Ba k p n s V d ch) (hp : Xap w Bc Ba B u T) (h1 : Bc < g) (h2 : Ba < g) {b : Nat} (hb : InFr g b) : ¬ Mine Bc Ba u b := by
 rintro (e | e | e)
 · rcases hb with hb | hb | hb | hb <;> omega
 · rcases hb with hb | hb | hb | hb <;> omega
 · obtain ⟨_, cur, hg⟩ := hp.own.blk e
   rcases hb with rfl | rfl | rfl | rfl
   · rw [h.put] at hg; simp at hg
   · have := h.ex; unfold Xbx at this; rw [this] at hg; simp at hg
   · rw [h.dp] at hg; simp at hg
   · rw [h.cn] at hg; simp at hg
theorem ExFr.lt (h : ExFr w g Bc Ba k p n s V d ch) {b : Nat} (hb : InFr g b) : b < w.heap.size := by
 rcases hb with rfl | rfl | rfl | rfl
 · exact Xab h.put
 · exact Xab h.ex
 · exact Xab h.dp
 · exact Xab h.cn
theorem ExFr.keep (h : ExFr w g Bc Ba k p n s V d ch) (hk : ∀ b, InFr g b → w'.heap[b]? = w.heap[b]?) : ExFr w' g Bc Ba k p n s V d ch :=
 ⟨(hk _ (.inl rfl)).trans h.put, (hk _ (.inr (.inl rfl))).trans h.ex, (hk _ (.inr (.inr (.inl rfl)))).trans h.dp, (hk _ (.inr (.inr (.inr rfl)))).trans h.cn⟩
theorem ExFr.below (h : ExFr w g Bc Ba k p n s V d ch) (hb : Below w.heap.size w w') : ExFr w' g Bc Ba k p n s V d ch := h.keep fun b hb' => hb.block b (h.lt hb')
theorem ExFr.set4 (h : ExFr w g Bc Ba k p n s V d ch) (X : Value) : ExFr (w.setCell ⟨g + 1, 4, none⟩ X) g Bc Ba k p n s X d ch := by
 refine ⟨(Below.heap_setCell _ _ _ _ (show g ≠ g + 1 by omega)).trans h.put, ?_, (Below.heap_setCell _ _ _ _ (show g + 1 + 1 ≠ g + 1 by omega)).trans h.dp, (Below.heap_setCell _ _ _ _ (show g + 1 + 1 + 1 ≠ g + 1 by omega)).trans h.cn⟩
 have := h.ex
 unfold Xbx at this ⊢
 simp [World.setCell, Array.getElem?_modify, this]
theorem ExFr.set3 (h : ExFr w g Bc Ba k p n s V d ch) (t : List UInt8) : ExFr (w.setCell ⟨g + 1, 3, none⟩ (.string (Xaa t))) g Bc Ba k p n t V d ch := by
 refine ⟨(Below.heap_setCell _ _ _ _ (show g ≠ g + 1 by omega)).trans h.put, ?_, (Below.heap_setCell _ _ _ _ (show g + 1 + 1 ≠ g + 1 by omega)).trans h.dp, (Below.heap_setCell _ _ _ _ (show g + 1 + 1 + 1 ≠ g + 1 by omega)).trans h.cn⟩
 have := h.ex
 unfold Xbx at this ⊢
 simp [World.setCell, Array.getElem?_modify, this]
theorem ExFr.set2 (h : ExFr w g Bc Ba k p n s V d ch) (m : Int) : ExFr (w.setCell ⟨g + 1, 2, none⟩ (.int .i64 m)) g Bc Ba k p m s V d ch := by
 refine ⟨(Below.heap_setCell _ _ _ _ (show g ≠ g + 1 by omega)).trans h.put, ?_, (Below.heap_setCell _ _ _ _ (show g + 1 + 1 ≠ g + 1 by omega)).trans h.dp, (Below.heap_setCell _ _ _ _ (show g + 1 + 1 + 1 ≠ g + 1 by omega)).trans h.cn⟩
 have := h.ex
 unfold Xbx at this ⊢
 simp [World.setCell, Array.getElem?_modify, this]
end
def Xgw (w0 w : World) (g Bc Ba B : Nat) (u : Value) (k p n : Int) (s : List UInt8) (d ch : Int) (rest : List Ex) (R : Ts) (e : Ending) (w' : World) : Prop := match R with
 | none => e = boom ∧ Chg (fun b => Mine Bc Ba u b ∨ b = g + 1) w w'
 | some T' => e = .returned (.tuple #[]) ∧ ∃ u' V', Xap w' Bc Ba B u' T' ∧ (∀ b, u'.ownBlock = some b → u.ownBlock = some b ∨ w.heap.size ≤ b) ∧ Chg (fun b => Mine Bc Ba u b ∨ b = g + 1) w w' ∧
    ExFr w' g Bc Ba k p n s V' d ch ∧ Xbd w0 B rest V'
theorem Xed.went {w w1 : World} {Bc Ba B g : Nat} {u v1 tv : Value} {T1 ts : List (List UInt8)} (h : Xed w (fun b => Mine Bc Ba u b ∨ b = g) tv ts) (hw : Went w Bc Ba B u w1 v1 T1) : Xed w1 (Mine Bc Ba v1) tv ts := by
 obtain ⟨A, c, h1, h2, h3, h4⟩ := h
 refine ⟨A, c, h1, h2, h3, fun k hk => ?_⟩
 obtain ⟨b, off, x1, x2, x3, x4⟩ := h4 k hk
 have hlt := Xcx x4
 exact ⟨b, off, x1, fun hm => x2 (.inl (hw.mine hm hlt)), x3, hw.2.2.cell x4 (fun hm => x2 (.inl hm))⟩
theorem ExFr.went {w w1 : World} {Bc Ba B g : Nat} {k p n : Int} {s : List UInt8} {V u v1 : Value} {d ch : Int} {T T1 : List (List UInt8)} (h : ExFr w g Bc Ba k p n s V d ch) (hp : Xap w Bc Ba B u T) (h1 : Bc < g) (h2 : Ba < g) (hw : Went w Bc Ba B u w1 v1 T1) : ExFr w1 g Bc Ba k p n s V d ch :=
 h.keep fun b hb => hw.2.2.block b (h.lt hb) (h.nm hp h1 h2 hb)
theorem Xap.put_ {w wm w1 : World} {Bc Ba B : Nat} {u X : Value} {T : List (List UInt8)} {p : Addr} (hp : Xap w Bc Ba B u T) (h1 : Below w.heap.size w wm) (hn : ¬ Mine Bc Ba u p.block) (h2 : Below w.heap.size (wm.setCell p X) w1) : Xap w1 Bc Ba B u T :=
 hp.keep fun b hb => (h2.block b (hp.mine hb).2).trans ((Below.heap_setCell _ _ _ _ (fun e => hn (by rw [← e]; exact hb))).trans (h1.block b (hp.mine hb).2))
theorem Chg.put_ {P : Nat → Prop} {w wm w1 : World} {X : Value} {p : Addr} (h1 : Below w.heap.size w wm) (hP : P p.block) (h2 : Below w.heap.size (wm.setCell p X) w1) : Chg P w w1 :=
 ((Chg.of_below (P := P) h1).setCell p X (fun _ => hP)).trans (P' := fun x => w.heap.size ≤ x) ⟨h2.os, h2.tape, h2.output, h2.size, fun k hk hn => h2.block k (by omega)⟩ (fun x hx h => by omega)
theorem Chg.mono {P P' : Nat → Prop} {w w' : World} (h : Chg P w w') (hp : ∀ x, x < w.heap.size → P x → P' x) : Chg P' w w' := ⟨h.os, h.tape, h.output, h.size, fun k hk hn => h.block k hk (fun e => hn (hp k hk e))⟩
theorem arg_yes {w0 w : World} {g Bc Ba B : Nat} {u : Value} {T : List (List UInt8)} {k p n : Int} {s : List UInt8} {V : Value} {d ch : Int} {e : Ex} {es : List Ex} (hb : Below B w0 w) (hB : B ≤ g) (hg1 : Bc < g) (hg2 : Ba < g) (hp : Xap w Bc Ba B u T)
  (hf : ExFr w g Bc Ba k p n s V d ch) (hr : Xbd w0 B (e :: es) V) (hd0 : 0 ≤ d) (hd : d ≤ 50) (ts : List (List UInt8)) (tv : Value) (hts : Xed w (fun b => Mine Bc Ba u b ∨ b = g + 1) tv ts) :
  Calls Tryz.prog 84 #[tv, .pointer (some ⟨g, 0, none⟩), .pointer (some ⟨g + 1, 0, none⟩), .pointer (some ⟨g + 1 + 1, 0, none⟩)] w (Xgw w0 w g Bc Ba B u k p n s d ch es (adv T (cat (penE e (d + 1) 0) (some ts)))) := by
 obtain ⟨A, c, rfl, hc, hM, hA⟩ := hr
 obtain ⟨b, off, A5, n5, c5, rfl, hbB, hnm, r0, r1, r2, r3, r4, hWr⟩ := hA 0 (by simp)
 have hrt := hA
 have q0 := cell_of_row w g 0 _ _ (0, 0) hf.put
 have q1 := cell_of_row w (g + 1 + 1) 0 _ _ (0, 0) hf.dp
 have q4 := hf.ex.c4
 have z4 := hf.ex.fr 4
 have up : ∀ {i : Nat} {v : Value}, w0.cell? ⟨b, i, none⟩ = some v → w.cell? ⟨b, i, none⟩ = some v := fun h => (hb.cell hbB).trans h
 have r0 := up r0
 have r1 := up r1
 have r2 := up r2
 have r3 := up r3
 have r4 := up r4
 rw [Nat.zero_mul, Nat.add_zero] at r0 r1 r2 r3 r4
 simp only [List.getElem_cons_zero] at r0 r1 r2 r3 r4 hWr hnm
 have htf := Xfo ⟨g + 1, 4, none⟩ b off es.length c w.drew _ _ _ _ _ _ _ q4 z4 hc r0 r1 r2 r3 r4
 unfold penV at q0
 simp at q0 q1
 have hwr : IntKind.i64.wrap (d + 1) = d + 1 := IntWalk.i64_in _ ⟨by omega, by omega⟩
 have HTF := lh htf
 have HWR := lh hWr
 clear htf hWr r0 r1 r2 r3 r4 q4 z4 hA
 go_enter Tryz.func84, Tryz.ntmps84
 go_wp2_with fail
 refine wp_region_held_drew (S := fun w' => w'.cell? ⟨g, 0, none⟩ = some (.func (.func 27) #[] #[.pointer (some ⟨Bc, 0, none⟩), .pointer (some ⟨Ba, 0, none⟩)]) ∧ w'.cell? ⟨g + 1 + 1, 0, none⟩ = some (.int .i64 d)) (by kernel_rfl) ⟨q0, q1⟩ (fun hHeld => ?_)
 refine wpAnyH_take (i := 0) (oi := _) (v := .func (.func 27) #[] #[.pointer (some ⟨Bc, 0, none⟩), .pointer (some ⟨Ba, 0, none⟩)]) rfl (by kernel_rfl) (by kernel_rfl) (by kernel_rfl) (fun _ _ _ h => h) (Or.inl ⟨by rfl, fun w hS => ?_⟩) hHeld ?_
 · obtain ⟨h1, h2⟩ := hS
   go_simp
 simp only [Act.put]
 refine wpAnyH_take (i := 1) (oi := _) (v := .pointer (some ⟨g + 1, 4, none⟩)) rfl (by kernel_rfl) (by kernel_rfl) (by kernel_rfl) (fun _ _ _ h => h) (Or.inl ⟨by rfl, fun w hS => ?_⟩) hHeld ?_
 · go_simp
 simp only [Act.put]
 refine wpAnyH_take (i := 3) (oi := _) (v := .int .i64 d) rfl (by kernel_rfl) (by kernel_rfl) (by kernel_rfl) (fun _ _ _ h => h) (Or.inl ⟨by rfl, fun w hS => ?_⟩) hHeld ?_
 · obtain ⟨h1, h2⟩ := hS
   go_simp
 simp only [Act.put]
 refine wpAnyH_take (i := 4) (oi := _) (v := .int .i64 (d + 1)) rfl (by kernel_rfl) (by kernel_rfl) (by kernel_rfl) (fun _ _ _ h => h) (Or.inl ⟨by rfl, fun w hS => ?_⟩) hHeld ?_
 · go_simp
 simp only [Act.put]
 refine wpAnyH_ready (rs := [2]) (by kernel_rfl) (by simp) ?_
 refine AllReadyH.cons rfl (fun K hK => ?_) AllReadyH.nil
 go_simp
 refine HTF.out.mono ?_
 rintro e1 w1 ⟨rfl, wm, off', hbm, hbm2, ho⟩
 have hdr : Below w.heap.size w w.drew := Below.drew (Below.refl _ w)
 have hbm : Below w.heap.size w wm := hdr.trans hbm
 have hbm2 : Below w.heap.size (wm.setCell ⟨g + 1, 4, none⟩ (.slice (some ⟨b, off', none⟩) es.length (c - 1))) w1 := hbm2
 have hnm1 := hf.nm hp hg1 hg2 (b := g + 1) (.inr (.inl rfl))
 have hf1 : ExFr w1 g Bc Ba k p n s (.slice (some ⟨b, off', none⟩) es.length (c - 1)) d ch := ((hf.below hbm).set4 _).keep fun x hx => hbm2.block x (hf.lt hx)
 have hp1 : Xap w1 Bc Ba B u T := hp.put_ (p := ⟨g + 1, 4, none⟩) hbm hnm1 hbm2
 have hch1 : Chg (fun b => Mine Bc Ba u b ∨ b = g + 1) w w1 := Chg.put_ (p := ⟨g + 1, 4, none⟩) hbm (.inr rfl) hbm2
 have hBw : B ≤ w.heap.size := Nat.le_trans hB (Nat.le_of_lt (hf.lt (.inl rfl)))
 have hmB : ∀ x, (Mine Bc Ba u x ∨ x = g + 1) → B ≤ x := fun x hx => by
  rcases hx with hx | hx
  · exact (hp.mine hx).1
  · omega
 have hb1 : Below B w0 w1 := hb.trans (hch1.below hBw hmB)
 have hr1 := Xbd.tail (off' := off') (c := c) ⟨_, _, rfl, hc, hM, hrt⟩ ho
 have k0 := cell_of_row w1 g 0 _ _ (0, 0) hf1.put
 have k1 := cell_of_row w1 (g + 1 + 1) 0 _ _ (0, 0) hf1.dp
 unfold penV at k0
 simp at k0 k1
 have HF1 := lh hf1
 have HP1 := lh hp1
 have HC1 := lh hch1
 have HR1 := lh hr1
 have hcall := HWR.out w1 Bc Ba u T (d + 1) 0 hb1 (Nat.le_trans hBw hch1.size) hp1 (by omega) (by omega) (by omega) (by omega)
 have hs1 : Xed w1 (fun b => Mine Bc Ba u b ∨ b = g + 1) tv ts := by
  obtain ⟨A, c, h1, h2, h3, h4⟩ := hts
  exact ⟨A, c, h1, h2, h3, fun k hk => let ⟨b, off, x1, x2, x3, x4⟩ := h4 k hk; ⟨b, off, x1, x2, x3, hch1.cell x4 x2⟩⟩
 have HS1 := lh hs1
 have HCALL := lh hcall
 clear hf1 hp1 hch1 hr1 hcall hs1 hrt hts hbm hbm2 hdr
 go_wp2_with fail
 refine hK.out _ _ ⟨k0, k1⟩ (fun hHeld => ?_)
 clear hK K
 refine wpAnyH_ready (rs := [5]) (by kernel_rfl) (by simp) ?_
 refine AllReadyH.cons rfl (fun K hK => ?_) AllReadyH.nil
 go_simp
 refine HCALL.out.mono ?_
 rintro e2 w2 hpost
 cases hR : adv T (penE e (d + 1) 0) with
 | none =>
   rw [hR] at hpost
   obtain ⟨rfl, hch2⟩ := hpost
   have HR := lh (Xad hR (some ts))
   have hch : Chg (fun b => Mine Bc Ba u b ∨ b = g + 1) w w2 := HC1.out.trans hch2 (fun x _ hx => .inl hx)
   have HCH := lh hch
   clear hR hch2 hch
   unfold boom
   go_wp2
   refine ⟨rfl, ?_⟩
   rw [HR.out]
   exact ⟨rfl, HCH.out⟩
 | some T2 =>
   rw [hR] at hpost
   obtain ⟨rfl, u2, hwent⟩ := hpost
   have HEQ := lh (Xae hR (some ts))
   have hf2 := HF1.out.went HP1.out hg1 hg2 hwent
   have hs2 := HS1.out.went hwent
   have k02 := cell_of_row w2 g 0 _ _ (0, 0) hf2.put
   have k12 := cell_of_row w2 (g + 1 + 1) 0 _ _ (0, 0) hf2.dp
   unfold penV at k02
   simp at k02 k12
   have hB2 : B ≤ w2.heap.size := Nat.le_trans (Nat.le_trans hBw HC1.out.size) hwent.2.2.size
   have hput := Xmd hwent.1 hB2 ts tv hs2
   have HPUT := lh hput
   have HW2 := lh hwent
   have HF2 := lh hf2
   clear hwent hf2 hs2 hput hR k0 k1
   go_wp2_with fail
   refine hK.out _ _ ⟨k02, k12⟩ (fun hHeld => ?_)
   clear hK K
   refine wpAnyH_done (by kernel_rfl) ?_ _
   go_wp2_with fail
   refine HPUT.out.mono ?_
   rintro e3 w3 hpost
   cases hR : adv T2 (some ts) with
   | none =>
     rw [hR] at hpost
     obtain ⟨rfl, hch3⟩ := hpost
     have HR := lh (HEQ.out.trans hR)
     have hch : Chg (fun b => Mine Bc Ba u b ∨ b = g + 1) w w3 := HC1.out.trans (HW2.out.fell hch3) (fun x _ hx => .inl hx)
     have HCH := lh hch
     clear hR hch3 hch
     unfold boom
     go_wp2
     refine ⟨rfl, ?_⟩
     rw [HR.out]
     exact ⟨rfl, HCH.out⟩
   | some T3 =>
     rw [hR] at hpost
     obtain ⟨rfl, u3, hwent⟩ := hpost
     have HR := lh (HEQ.out.trans hR)
     have hf3 := HF2.out.went HW2.out.1 hg1 hg2 hwent
     have hw13 := HW2.out.trans hwent
     have HW13 := lh hw13
     have HF3 := lh hf3
     have HSZ := lh HC1.out.size
     clear hwent hf3 hw13 hR
     go_wp2
     go_end0
     rw [HR.out]
     refine ⟨rfl, u3, _, HW13.out.1, fun x hx => ?_, HC1.out.trans HW13.out.2.2 (fun x _ hx => .inl hx), HF3.out, HR1.out⟩
     rcases HW13.out.2.1 x hx with h | h
     · exact .inl h
     · exact .inr (Nat.le_trans HSZ.out h)
theorem arg_no {w0 w : World} {g Bc Ba B : Nat} {u : Value} {T : List (List UInt8)} {k p n : Int} {s : List UInt8} {V : Value} {d ch : Int} (hb : Below B w0 w) (hB : B ≤ g) (hg1 : Bc < g) (hg2 : Ba < g) (hp : Xap w Bc Ba B u T)
  (hf : ExFr w g Bc Ba k p n s V d ch) (hr : Xbd w0 B [] V) (hd0 : 0 ≤ d) (hd : d ≤ 50) (ts : List (List UInt8)) (tv : Value) (hts : Xed w (fun b => Mine Bc Ba u b ∨ b = g + 1) tv ts) :
  Calls Tryz.prog 84 #[tv, .pointer (some ⟨g, 0, none⟩), .pointer (some ⟨g + 1, 0, none⟩), .pointer (some ⟨g + 1 + 1, 0, none⟩)] w (Xgw w0 w g Bc Ba B u k p n s d ch [] none) := by
 obtain ⟨A, c, rfl, hc, hM, hA⟩ := hr
 have q0 := cell_of_row w g 0 _ _ (0, 0) hf.put
 have q1 := cell_of_row w (g + 1 + 1) 0 _ _ (0, 0) hf.dp
 have q4 := hf.ex.c4
 have htf := Xgh ⟨g + 1, 4, none⟩ A c w.drew q4
 unfold penV at q0
 simp at q0 q1
 have hwr : IntKind.i64.wrap (d + 1) = d + 1 := IntWalk.i64_in _ ⟨by omega, by omega⟩
 have HTF := lh htf
 clear htf q4
 go_enter Tryz.func84, Tryz.ntmps84
 go_wp2_with fail
 refine wp_region_held_drew (S := fun w' => w'.cell? ⟨g, 0, none⟩ = some (.func (.func 27) #[] #[.pointer (some ⟨Bc, 0, none⟩), .pointer (some ⟨Ba, 0, none⟩)]) ∧ w'.cell? ⟨g + 1 + 1, 0, none⟩ = some (.int .i64 d)) (by kernel_rfl) ⟨q0, q1⟩ (fun hHeld => ?_)
 refine wpAnyH_take (i := 0) (oi := _) (v := .func (.func 27) #[] #[.pointer (some ⟨Bc, 0, none⟩), .pointer (some ⟨Ba, 0, none⟩)]) rfl (by kernel_rfl) (by kernel_rfl) (by kernel_rfl) (fun _ _ _ h => h) (Or.inl ⟨by rfl, fun w hS => ?_⟩) hHeld ?_
 · obtain ⟨h1, h2⟩ := hS
   go_simp
 simp only [Act.put]
 refine wpAnyH_take (i := 1) (oi := _) (v := .pointer (some ⟨g + 1, 4, none⟩)) rfl (by kernel_rfl) (by kernel_rfl) (by kernel_rfl) (fun _ _ _ h => h) (Or.inl ⟨by rfl, fun w hS => ?_⟩) hHeld ?_
 · go_simp
 simp only [Act.put]
 refine wpAnyH_take (i := 3) (oi := _) (v := .int .i64 d) rfl (by kernel_rfl) (by kernel_rfl) (by kernel_rfl) (fun _ _ _ h => h) (Or.inl ⟨by rfl, fun w hS => ?_⟩) hHeld ?_
 · obtain ⟨h1, h2⟩ := hS
   go_simp
 simp only [Act.put]
 refine wpAnyH_take (i := 4) (oi := _) (v := .int .i64 (d + 1)) rfl (by kernel_rfl) (by kernel_rfl) (by kernel_rfl) (fun _ _ _ h => h) (Or.inl ⟨by rfl, fun w hS => ?_⟩) hHeld ?_
 · go_simp
 simp only [Act.put]
 refine wpAnyH_ready (rs := [2]) (by kernel_rfl) (by simp) ?_
 refine AllReadyH.cons rfl (fun K hK => ?_) AllReadyH.nil
 go_simp
 refine HTF.out.mono ?_
 rintro e1 w1 ⟨rfl, hbm⟩
 have HB := lh hbm
 clear hbm
 unfold boom
 go_wp2
 refine ⟨rfl, rfl, ?_⟩
 exact Chg.of_below ((Below.drew (Below.refl _ w)).trans HB.out)
theorem obj_yes {w0 w : World} {g Bc Ba B : Nat} {u : Value} {T : List (List UInt8)} {k p n : Int} {s : List UInt8} {V : Value} {d ch : Int} {e : Ex} {es : List Ex} (hb : Below B w0 w) (hB : B ≤ g) (hg1 : Bc < g) (hg2 : Ba < g) (hp : Xap w Bc Ba B u T)
  (hf : ExFr w g Bc Ba k p n s V d ch) (hr : Xbd w0 B (e :: es) V) (hd0 : 0 ≤ d) (hd : d ≤ 50) (hch0 : 0 ≤ ch) (hch8 : ch < 8) (ts : List (List UInt8)) (tv : Value) (hts : Xed w (fun b => Mine Bc Ba u b ∨ b = g + 1) tv ts) :
  Calls Tryz.prog 85 #[tv, .pointer (some ⟨g + 1 + 1 + 1, 0, none⟩), .pointer (some ⟨g, 0, none⟩), .pointer (some ⟨g + 1, 0, none⟩), .pointer (some ⟨g + 1 + 1, 0, none⟩)] w (Xgw w0 w g Bc Ba B u k p n s d ch es (adv T (cat (penE e d (ch + 1)) (some ts)))) := by
 obtain ⟨A, c, rfl, hc, hM, hA⟩ := hr
 obtain ⟨b, off, A5, n5, c5, rfl, hbB, hnm, r0, r1, r2, r3, r4, hWr⟩ := hA 0 (by simp)
 have hrt := hA
 have q0 := cell_of_row w g 0 _ _ (0, 0) hf.put
 have q1 := cell_of_row w (g + 1 + 1) 0 _ _ (0, 0) hf.dp
 have q4 := hf.ex.c4
 have z4 := hf.ex.fr 4
 have up : ∀ {i : Nat} {v : Value}, w0.cell? ⟨b, i, none⟩ = some v → w.cell? ⟨b, i, none⟩ = some v := fun h => (hb.cell hbB).trans h
 have r0 := up r0
 have r1 := up r1
 have r2 := up r2
 have r3 := up r3
 have r4 := up r4
 rw [Nat.zero_mul, Nat.add_zero] at r0 r1 r2 r3 r4
 simp only [List.getElem_cons_zero] at r0 r1 r2 r3 r4 hWr hnm
 have htf := Xfo ⟨g + 1, 4, none⟩ b off es.length c w.drew _ _ _ _ _ _ _ q4 z4 hc r0 r1 r2 r3 r4
 unfold penV at q0
 simp at q0 q1
 have hwr : IntKind.i64.wrap (ch + 1) = ch + 1 := IntWalk.i64_in _ ⟨by omega, by omega⟩
 have q3 := cell_of_row w (g + 1 + 1 + 1) 0 _ _ (0, 0) hf.cn
 simp at q3
 have HTF := lh htf
 have HWR := lh hWr
 clear htf hWr r0 r1 r2 r3 r4 q4 z4 hA
 go_enter Tryz.func85, Tryz.ntmps85
 go_wp2_with fail
 refine (Xaj _).mono ?_
 rintro e1 w1 ⟨rfl, rfl⟩
 go_wp2_with fail
 refine wp_region_held_drew (S := fun w' => w'.cell? ⟨g, 0, none⟩ = some (.func (.func 27) #[] #[.pointer (some ⟨Bc, 0, none⟩), .pointer (some ⟨Ba, 0, none⟩)]) ∧ w'.cell? ⟨g + 1 + 1, 0, none⟩ = some (.int .i64 d) ∧ w'.cell? ⟨g + 1 + 1 + 1, 0, none⟩ = some (.int .i64 ch)) (by kernel_rfl) ⟨q0, q1, q3⟩ (fun hHeld => ?_)
 refine wpAnyH_take (i := 0) (oi := _) (v := .func (.func 27) #[] #[.pointer (some ⟨Bc, 0, none⟩), .pointer (some ⟨Ba, 0, none⟩)]) rfl (by kernel_rfl) (by kernel_rfl) (by kernel_rfl) (fun _ _ _ h => h) (Or.inl ⟨by rfl, fun w hS => ?_⟩) hHeld ?_
 · obtain ⟨h1, h2, h3⟩ := hS
   go_simp
 simp only [Act.put]
 refine wpAnyH_take (i := 1) (oi := _) (v := .pointer (some ⟨g + 1, 4, none⟩)) rfl (by kernel_rfl) (by kernel_rfl) (by kernel_rfl) (fun _ _ _ h => h) (Or.inl ⟨by rfl, fun w hS => ?_⟩) hHeld ?_
 · go_simp
 simp only [Act.put]
 refine wpAnyH_take (i := 3) (oi := _) (v := .int .i64 d) rfl (by kernel_rfl) (by kernel_rfl) (by kernel_rfl) (fun _ _ _ h => h) (Or.inl ⟨by rfl, fun w hS => ?_⟩) hHeld ?_
 · obtain ⟨h1, h2, h3⟩ := hS
   go_simp
 simp only [Act.put]
 refine wpAnyH_take (i := 4) (oi := _) (v := .int .i64 ch) rfl (by kernel_rfl) (by kernel_rfl) (by kernel_rfl) (fun _ _ _ h => h) (Or.inl ⟨by rfl, fun w hS => ?_⟩) hHeld ?_
 · obtain ⟨h1, h2, h3⟩ := hS
   go_simp
 simp only [Act.put]
 refine wpAnyH_take (i := 5) (oi := _) (v := .int .i64 (ch + 1)) rfl (by kernel_rfl) (by kernel_rfl) (by kernel_rfl) (fun _ _ _ h => h) (Or.inl ⟨by rfl, fun w hS => ?_⟩) hHeld ?_
 · go_simp
 simp only [Act.put]
 refine wpAnyH_ready (rs := [2]) (by kernel_rfl) (by simp) ?_
 refine AllReadyH.cons rfl (fun K hK => ?_) AllReadyH.nil
 go_simp
 refine HTF.out.mono ?_
 rintro e1 w1 ⟨rfl, wm, off', hbm, hbm2, ho⟩
 have hdr : Below w.heap.size w w.drew := Below.drew (Below.refl _ w)
 have hbm : Below w.heap.size w wm := hdr.trans hbm
 have hbm2 : Below w.heap.size (wm.setCell ⟨g + 1, 4, none⟩ (.slice (some ⟨b, off', none⟩) es.length (c - 1))) w1 := hbm2
 have hnm1 := hf.nm hp hg1 hg2 (b := g + 1) (.inr (.inl rfl))
 have hf1 : ExFr w1 g Bc Ba k p n s (.slice (some ⟨b, off', none⟩) es.length (c - 1)) d ch := ((hf.below hbm).set4 _).keep fun x hx => hbm2.block x (hf.lt hx)
 have hp1 : Xap w1 Bc Ba B u T := hp.put_ (p := ⟨g + 1, 4, none⟩) hbm hnm1 hbm2
 have hch1 : Chg (fun b => Mine Bc Ba u b ∨ b = g + 1) w w1 := Chg.put_ (p := ⟨g + 1, 4, none⟩) hbm (.inr rfl) hbm2
 have hBw : B ≤ w.heap.size := Nat.le_trans hB (Nat.le_of_lt (hf.lt (.inl rfl)))
 have hmB : ∀ x, (Mine Bc Ba u x ∨ x = g + 1) → B ≤ x := fun x hx => by
  rcases hx with hx | hx
  · exact (hp.mine hx).1
  · omega
 have hb1 : Below B w0 w1 := hb.trans (hch1.below hBw hmB)
 have hr1 := Xbd.tail (off' := off') (c := c) ⟨_, _, rfl, hc, hM, hrt⟩ ho
 have k0 := cell_of_row w1 g 0 _ _ (0, 0) hf1.put
 have k1 := cell_of_row w1 (g + 1 + 1) 0 _ _ (0, 0) hf1.dp
 unfold penV at k0
 simp at k0 k1
 have k3 := cell_of_row w1 (g + 1 + 1 + 1) 0 _ _ (0, 0) hf1.cn
 simp at k3
 have HF1 := lh hf1
 have HP1 := lh hp1
 have HC1 := lh hch1
 have HR1 := lh hr1
 have hcall := HWR.out w1 Bc Ba u T d (ch + 1) hb1 (Nat.le_trans hBw hch1.size) hp1 (by omega) (by omega) (by omega) (by omega)
 have hs1 : Xed w1 (fun b => Mine Bc Ba u b ∨ b = g + 1) tv ts := by
  obtain ⟨A, c, h1, h2, h3, h4⟩ := hts
  exact ⟨A, c, h1, h2, h3, fun k hk => let ⟨b, off, x1, x2, x3, x4⟩ := h4 k hk; ⟨b, off, x1, x2, x3, hch1.cell x4 x2⟩⟩
 have HS1 := lh hs1
 have HCALL := lh hcall
 clear hf1 hp1 hch1 hr1 hcall hs1 hrt hts hbm hbm2 hdr
 go_wp2_with fail
 refine hK.out _ _ ⟨k0, k1, k3⟩ (fun hHeld => ?_)
 clear hK K
 refine wpAnyH_ready (rs := [6]) (by kernel_rfl) (by simp) ?_
 refine AllReadyH.cons rfl (fun K hK => ?_) AllReadyH.nil
 go_simp
 refine HCALL.out.mono ?_
 rintro e2 w2 hpost
 cases hR : adv T (penE e d (ch + 1)) with
 | none =>
   rw [hR] at hpost
   obtain ⟨rfl, hch2⟩ := hpost
   have HR := lh (Xad hR (some ts))
   have hch : Chg (fun b => Mine Bc Ba u b ∨ b = g + 1) w w2 := HC1.out.trans hch2 (fun x _ hx => .inl hx)
   have HCH := lh hch
   clear hR hch2 hch
   unfold boom
   go_wp2
   refine ⟨rfl, ?_⟩
   rw [HR.out]
   exact ⟨rfl, HCH.out⟩
 | some T2 =>
   rw [hR] at hpost
   obtain ⟨rfl, u2, hwent⟩ := hpost
   have HEQ := lh (Xae hR (some ts))
   have hf2 := HF1.out.went HP1.out hg1 hg2 hwent
   have hs2 := HS1.out.went hwent
   have k02 := cell_of_row w2 g 0 _ _ (0, 0) hf2.put
   have k12 := cell_of_row w2 (g + 1 + 1) 0 _ _ (0, 0) hf2.dp
   unfold penV at k02
   simp at k02 k12
   have k32 := cell_of_row w2 (g + 1 + 1 + 1) 0 _ _ (0, 0) hf2.cn
   simp at k32
   have hB2 : B ≤ w2.heap.size := Nat.le_trans (Nat.le_trans hBw HC1.out.size) hwent.2.2.size
   have hput := Xmd hwent.1 hB2 ts tv hs2
   have HPUT := lh hput
   have HW2 := lh hwent
   have HF2 := lh hf2
   clear hwent hf2 hs2 hput hR k0 k1 k3
   go_wp2_with fail
   refine hK.out _ _ ⟨k02, k12, k32⟩ (fun hHeld => ?_)
   clear hK K
   refine wpAnyH_done (by kernel_rfl) ?_ _
   go_wp2_with fail
   refine HPUT.out.mono ?_
   rintro e3 w3 hpost
   cases hR : adv T2 (some ts) with
   | none =>
     rw [hR] at hpost
     obtain ⟨rfl, hch3⟩ := hpost
     have HR := lh (HEQ.out.trans hR)
     have hch : Chg (fun b => Mine Bc Ba u b ∨ b = g + 1) w w3 := HC1.out.trans (HW2.out.fell hch3) (fun x _ hx => .inl hx)
     have HCH := lh hch
     clear hR hch3 hch
     unfold boom
     go_wp2
     refine ⟨rfl, ?_⟩
     rw [HR.out]
     exact ⟨rfl, HCH.out⟩
   | some T3 =>
     rw [hR] at hpost
     obtain ⟨rfl, u3, hwent⟩ := hpost
     have HR := lh (HEQ.out.trans hR)
     have hf3 := HF2.out.went HW2.out.1 hg1 hg2 hwent
     have hw13 := HW2.out.trans hwent
     have HW13 := lh hw13
     have HF3 := lh hf3
     have HSZ := lh HC1.out.size
     clear hwent hf3 hw13 hR
     go_wp2
     go_end0
     rw [HR.out]
     refine ⟨rfl, u3, _, HW13.out.1, fun x hx => ?_, HC1.out.trans HW13.out.2.2 (fun x _ hx => .inl hx), HF3.out, HR1.out⟩
     rcases HW13.out.2.1 x hx with h | h
     · exact .inl h
     · exact .inr (Nat.le_trans HSZ.out h)
theorem obj_no {w0 w : World} {g Bc Ba B : Nat} {u : Value} {T : List (List UInt8)} {k p n : Int} {s : List UInt8} {V : Value} {d ch : Int} (hb : Below B w0 w) (hB : B ≤ g) (hg1 : Bc < g) (hg2 : Ba < g) (hp : Xap w Bc Ba B u T)
  (hf : ExFr w g Bc Ba k p n s V d ch) (hr : Xbd w0 B [] V) (hd0 : 0 ≤ d) (hd : d ≤ 50) (hch0 : 0 ≤ ch) (hch8 : ch < 8) (ts : List (List UInt8)) (tv : Value) (hts : Xed w (fun b => Mine Bc Ba u b ∨ b = g + 1) tv ts) :
  Calls Tryz.prog 85 #[tv, .pointer (some ⟨g + 1 + 1 + 1, 0, none⟩), .pointer (some ⟨g, 0, none⟩), .pointer (some ⟨g + 1, 0, none⟩), .pointer (some ⟨g + 1 + 1, 0, none⟩)] w (Xgw w0 w g Bc Ba B u k p n s d ch [] none) := by
 obtain ⟨A, c, rfl, hc, hM, hA⟩ := hr
 have q0 := cell_of_row w g 0 _ _ (0, 0) hf.put
 have q1 := cell_of_row w (g + 1 + 1) 0 _ _ (0, 0) hf.dp
 have q4 := hf.ex.c4
 have htf := Xgh ⟨g + 1, 4, none⟩ A c w.drew q4
 unfold penV at q0
 simp at q0 q1
 have hwr : IntKind.i64.wrap (ch + 1) = ch + 1 := IntWalk.i64_in _ ⟨by omega, by omega⟩
 have q3 := cell_of_row w (g + 1 + 1 + 1) 0 _ _ (0, 0) hf.cn
 simp at q3
 have HTF := lh htf
 clear htf q4
 go_enter Tryz.func85, Tryz.ntmps85
 go_wp2_with fail
 refine (Xaj _).mono ?_
 rintro e1 w1 ⟨rfl, rfl⟩
 go_wp2_with fail
 refine wp_region_held_drew (S := fun w' => w'.cell? ⟨g, 0, none⟩ = some (.func (.func 27) #[] #[.pointer (some ⟨Bc, 0, none⟩), .pointer (some ⟨Ba, 0, none⟩)]) ∧ w'.cell? ⟨g + 1 + 1, 0, none⟩ = some (.int .i64 d) ∧ w'.cell? ⟨g + 1 + 1 + 1, 0, none⟩ = some (.int .i64 ch)) (by kernel_rfl) ⟨q0, q1, q3⟩ (fun hHeld => ?_)
 refine wpAnyH_take (i := 0) (oi := _) (v := .func (.func 27) #[] #[.pointer (some ⟨Bc, 0, none⟩), .pointer (some ⟨Ba, 0, none⟩)]) rfl (by kernel_rfl) (by kernel_rfl) (by kernel_rfl) (fun _ _ _ h => h) (Or.inl ⟨by rfl, fun w hS => ?_⟩) hHeld ?_
 · obtain ⟨h1, h2, h3⟩ := hS
   go_simp
 simp only [Act.put]
 refine wpAnyH_take (i := 1) (oi := _) (v := .pointer (some ⟨g + 1, 4, none⟩)) rfl (by kernel_rfl) (by kernel_rfl) (by kernel_rfl) (fun _ _ _ h => h) (Or.inl ⟨by rfl, fun w hS => ?_⟩) hHeld ?_
 · go_simp
 simp only [Act.put]
 refine wpAnyH_take (i := 3) (oi := _) (v := .int .i64 d) rfl (by kernel_rfl) (by kernel_rfl) (by kernel_rfl) (fun _ _ _ h => h) (Or.inl ⟨by rfl, fun w hS => ?_⟩) hHeld ?_
 · obtain ⟨h1, h2, h3⟩ := hS
   go_simp
 simp only [Act.put]
 refine wpAnyH_take (i := 4) (oi := _) (v := .int .i64 ch) rfl (by kernel_rfl) (by kernel_rfl) (by kernel_rfl) (fun _ _ _ h => h) (Or.inl ⟨by rfl, fun w hS => ?_⟩) hHeld ?_
 · obtain ⟨h1, h2, h3⟩ := hS
   go_simp
 simp only [Act.put]
 refine wpAnyH_take (i := 5) (oi := _) (v := .int .i64 (ch + 1)) rfl (by kernel_rfl) (by kernel_rfl) (by kernel_rfl) (fun _ _ _ h => h) (Or.inl ⟨by rfl, fun w hS => ?_⟩) hHeld ?_
 · go_simp
 simp only [Act.put]
 refine wpAnyH_ready (rs := [2]) (by kernel_rfl) (by simp) ?_
 refine AllReadyH.cons rfl (fun K hK => ?_) AllReadyH.nil
 go_simp
 refine HTF.out.mono ?_
 rintro e1 w1 ⟨rfl, hbm⟩
 have HB := lh hbm
 clear hbm
 unfold boom
 go_wp2
 refine ⟨rfl, rfl, ?_⟩
 exact Chg.of_below ((Below.drew (Below.refl _ w)).trans HB.out)
theorem obj_deep {w0 w : World} {g Bc Ba B : Nat} {u : Value} {T : List (List UInt8)} {k p n : Int} {s : List UInt8} {V : Value} {d ch : Int} (hb : Below B w0 w) (hB : B ≤ g) (hg1 : Bc < g) (hg2 : Ba < g) (hp : Xap w Bc Ba B u T)
  (hf : ExFr w g Bc Ba k p n s V d ch) (hd0 : 0 ≤ d) (hd : d ≤ 50) (hch0 : 0 ≤ ch) (hch8 : ¬ ch < 8) (ts : List (List UInt8)) (tv : Value) (hts : Xed w (fun b => Mine Bc Ba u b ∨ b = g + 1) tv ts) :
  Calls Tryz.prog 85 #[tv, .pointer (some ⟨g + 1 + 1 + 1, 0, none⟩), .pointer (some ⟨g, 0, none⟩), .pointer (some ⟨g + 1, 0, none⟩), .pointer (some ⟨g + 1 + 1, 0, none⟩)] w (Xgw w0 w g Bc Ba B u k p n s d ch [] none) := by
 have q3 := cell_of_row w (g + 1 + 1 + 1) 0 _ _ (0, 0) hf.cn
 simp at q3
 go_enter Tryz.func85, Tryz.ntmps85
 go_wp2_with fail
 refine (Xah _).mono ?_
 rintro e1 w1 ⟨rfl, rfl⟩
 unfold boom
 go_wp2
 exact ⟨rfl, rfl, Chg.refl _ _⟩
end
end Go.Proofs.YtodociiaobjfgaaGreatDoor
