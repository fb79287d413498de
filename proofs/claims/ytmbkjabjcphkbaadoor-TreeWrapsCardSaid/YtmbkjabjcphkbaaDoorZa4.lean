/- Vi; Vk; Vl; Vm -/
import Derived.Test.YtmbkjabjcphkbaaDoorZa3
import Derived.Deep.RegionHeld3
import Derived.IntWalk
section
/- The walks of an expression's closures. -/
set_option linter.unusedVariables false
namespace Go.Proofs.YtmbkjabjcphkbaaDoor
open Go.RowKit

/-- the expression e, whose arguments are the slice r, is written wherever the blocks below B are as in w0 -/
def WritesE (w0 : World) (B : Nat) (e : Ex) (r : Value) : Prop :=
  ∀ (w : World) (Bc Ba : Nat) (u : Value) (T : List (List UInt8)) (d ch : Int), Below B w0 w → B ≤ w.heap.size → PenAt w Bc Ba B u T → 0 ≤ d → d ≤ 100 → 0 ≤ ch → ch ≤ 100 →
    Calls Tryd.prog 28 #[penV Bc Ba, .agg #[.int .i64 e.kind, .int .i64 e.pl, .int .i64 e.num, .string (strOf e.name), r], .int .i64 d, .int .i64 ch] w (PenPost w Bc Ba B u (adv T (penE e d ch)))
/-- the expressions es lie at the slice V, and each is written -/
def Reads (w0 : World) (B : Nat) (es : List Ex) (V : Value) : Prop :=
  ∃ A c, V = .slice A es.length c ∧ es.length ≤ c ∧ c ≤ 9223372036854775807 ∧ ∀ (j : Nat) (hj : j < es.length), ∃ b off A5 n5 c5, A = some ⟨b, off, none⟩ ∧ b < B ∧ es[j].name.length ≤ 40000 ∧
    w0.cell? ⟨b, off + j * 5, none⟩ = some (.int .i64 es[j].kind) ∧ w0.cell? ⟨b, off + j * 5 + 1, none⟩ = some (.int .i64 es[j].pl) ∧ w0.cell? ⟨b, off + j * 5 + 2, none⟩ = some (.int .i64 es[j].num) ∧
    w0.cell? ⟨b, off + j * 5 + 3, none⟩ = some (.string (strOf es[j].name)) ∧ w0.cell? ⟨b, off + j * 5 + 4, none⟩ = some (.slice A5 n5 c5) ∧ WritesE w0 B es[j] (.slice A5 n5 c5)
theorem Reads.tail {w0 : World} {B : Nat} {e : Ex} {es : List Ex} {b off n c off' : Nat} (h : Reads w0 B (e :: es) (.slice (some ⟨b, off, none⟩) n c)) (hoff : 0 < es.length → off' = off + 5) :
    Reads w0 B es (.slice (some ⟨b, off', none⟩) es.length (c - 1)) := by
  obtain ⟨A, c', hv, hc, hM, hA⟩ := h
  simp only [Value.slice.injEq] at hv
  obtain ⟨rfl, hn, rfl⟩ := hv
  have hc' : es.length + 1 ≤ c := hc
  refine ⟨_, _, rfl, by omega, by omega, fun j hj => ?_⟩
  obtain ⟨b2, off2, A5, n5, c5, h1, h2, h3, r0, r1, r2, r3, r4, hw⟩ := hA (j + 1) (by simpa using hj)
  simp only [Option.some.injEq, Addr.mk.injEq, and_true] at h1
  obtain ⟨rfl, rfl⟩ := h1
  have ho := hoff (by omega)
  subst ho
  simp only [List.getElem_cons_succ] at h3 r0 r1 r2 r3 r4 hw
  have e0 : ∀ i, off + 5 + j * 5 + i = off + (j + 1) * 5 + i := fun i => by omega
  have e1 : off + 5 + j * 5 = off + (j + 1) * 5 := by omega
  exact ⟨b, off + 5, A5, n5, c5, rfl, h2, h3, by rw [e1]; exact r0, by rw [e0]; exact r1, by rw [e0]; exact r2, by rw [e0]; exact r3, by rw [e0]; exact r4, hw⟩

/-- the variables of an expression's writer -/
structure ExFr (w : World) (g Bc Ba : Nat) (k p n : Int) (s : List UInt8) (V : Value) (d ch : Int) : Prop where
  put : w.heap[g]? = some (.cells #[penV Bc Ba] 63 (0, 0))
  ex : ExBlk w (g + 1) k p n (strOf s) V
  dp : w.heap[g + 1 + 1]? = some (.cells #[.int .i64 d] 3 (0, 0))
  cn : w.heap[g + 1 + 1 + 1]? = some (.cells #[.int .i64 ch] 3 (0, 0))
def InFr (g b : Nat) : Prop := b = g ∨ b = g + 1 ∨ b = g + 1 + 1 ∨ b = g + 1 + 1 + 1
section
variable {w w' : World} {g Bc Ba B : Nat} {k p n : Int} {s : List UInt8} {V u : Value} {d ch : Int} {T : List (List UInt8)}
theorem ExFr.nm (h : ExFr w g Bc Ba k p n s V d ch) (hp : PenAt w Bc Ba B u T) (h1 : Bc < g) (h2 : Ba < g) {b : Nat} (hb : InFr g b) : ¬ Mine Bc Ba u b := by
  rintro (e | e | e)
  · rcases hb with hb | hb | hb | hb <;> omega
  · rcases hb with hb | hb | hb | hb <;> omega
  · obtain ⟨_, cur, hg⟩ := hp.own.blk e
    rcases hb with rfl | rfl | rfl | rfl
    · rw [h.put] at hg; simp at hg
    · have := h.ex; unfold ExBlk at this; rw [this] at hg; simp at hg
    · rw [h.dp] at hg; simp at hg
    · rw [h.cn] at hg; simp at hg
theorem ExFr.lt (h : ExFr w g Bc Ba k p n s V d ch) {b : Nat} (hb : InFr g b) : b < w.heap.size := by
  rcases hb with rfl | rfl | rfl | rfl
  · exact lt_of_heap h.put
  · exact lt_of_heap h.ex
  · exact lt_of_heap h.dp
  · exact lt_of_heap h.cn
theorem ExFr.keep (h : ExFr w g Bc Ba k p n s V d ch) (hk : ∀ b, InFr g b → w'.heap[b]? = w.heap[b]?) : ExFr w' g Bc Ba k p n s V d ch :=
  ⟨(hk _ (.inl rfl)).trans h.put, (hk _ (.inr (.inl rfl))).trans h.ex, (hk _ (.inr (.inr (.inl rfl)))).trans h.dp, (hk _ (.inr (.inr (.inr rfl)))).trans h.cn⟩
theorem ExFr.below (h : ExFr w g Bc Ba k p n s V d ch) (hb : Below w.heap.size w w') : ExFr w' g Bc Ba k p n s V d ch := h.keep fun b hb' => hb.block b (h.lt hb')
theorem ExFr.set4 (h : ExFr w g Bc Ba k p n s V d ch) (X : Value) : ExFr (w.setCell ⟨g + 1, 4, none⟩ X) g Bc Ba k p n s X d ch := by
  refine ⟨(Below.heap_setCell _ _ _ _ (show g ≠ g + 1 by omega)).trans h.put, ?_, (Below.heap_setCell _ _ _ _ (show g + 1 + 1 ≠ g + 1 by omega)).trans h.dp, (Below.heap_setCell _ _ _ _ (show g + 1 + 1 + 1 ≠ g + 1 by omega)).trans h.cn⟩
  have := h.ex
  unfold ExBlk at this ⊢
  simp [World.setCell, Array.getElem?_modify, this]
theorem ExFr.set3 (h : ExFr w g Bc Ba k p n s V d ch) (t : List UInt8) : ExFr (w.setCell ⟨g + 1, 3, none⟩ (.string (strOf t))) g Bc Ba k p n t V d ch := by
  refine ⟨(Below.heap_setCell _ _ _ _ (show g ≠ g + 1 by omega)).trans h.put, ?_, (Below.heap_setCell _ _ _ _ (show g + 1 + 1 ≠ g + 1 by omega)).trans h.dp, (Below.heap_setCell _ _ _ _ (show g + 1 + 1 + 1 ≠ g + 1 by omega)).trans h.cn⟩
  have := h.ex
  unfold ExBlk at this ⊢
  simp [World.setCell, Array.getElem?_modify, this]
theorem ExFr.set2 (h : ExFr w g Bc Ba k p n s V d ch) (m : Int) : ExFr (w.setCell ⟨g + 1, 2, none⟩ (.int .i64 m)) g Bc Ba k p m s V d ch := by
  refine ⟨(Below.heap_setCell _ _ _ _ (show g ≠ g + 1 by omega)).trans h.put, ?_, (Below.heap_setCell _ _ _ _ (show g + 1 + 1 ≠ g + 1 by omega)).trans h.dp, (Below.heap_setCell _ _ _ _ (show g + 1 + 1 + 1 ≠ g + 1 by omega)).trans h.cn⟩
  have := h.ex
  unfold ExBlk at this ⊢
  simp [World.setCell, Array.getElem?_modify, this]
end
/-- how a closure of an expression's writer ends: rest: what is left of the arguments -/
def FrPost (w0 w : World) (g Bc Ba B : Nat) (u : Value) (k p n : Int) (s : List UInt8) (d ch : Int) (rest : List Ex) (R : Ts) (e : Ending) (w' : World) : Prop := match R with
  | none => e = boom ∧ Chg (fun b => Mine Bc Ba u b ∨ b = g + 1) w w'
  | some T' => e = .returned (.tuple #[]) ∧ ∃ u' V', PenAt w' Bc Ba B u' T' ∧ (∀ b, u'.ownBlock = some b → u.ownBlock = some b ∨ w.heap.size ≤ b) ∧ Chg (fun b => Mine Bc Ba u b ∨ b = g + 1) w w' ∧
      ExFr w' g Bc Ba k p n s V' d ch ∧ Reads w0 B rest V'

theorem StrsAt.went {w w1 : World} {Bc Ba B g : Nat} {u v1 tv : Value} {T1 ts : List (List UInt8)} (h : StrsAt w (fun b => Mine Bc Ba u b ∨ b = g) tv ts) (hw : Went w Bc Ba B u w1 v1 T1) : StrsAt w1 (Mine Bc Ba v1) tv ts := by
  obtain ⟨A, c, h1, h2, h3, h4⟩ := h
  refine ⟨A, c, h1, h2, h3, fun k hk => ?_⟩
  obtain ⟨b, off, x1, x2, x3, x4⟩ := h4 k hk
  have hlt := lt_of_cell x4
  exact ⟨b, off, x1, fun hm => x2 (.inl (hw.mine hm hlt)), x3, hw.2.2.cell x4 (fun hm => x2 (.inl hm))⟩
theorem ExFr.went {w w1 : World} {Bc Ba B g : Nat} {k p n : Int} {s : List UInt8} {V u v1 : Value} {d ch : Int} {T T1 : List (List UInt8)} (h : ExFr w g Bc Ba k p n s V d ch) (hp : PenAt w Bc Ba B u T) (h1 : Bc < g) (h2 : Ba < g) (hw : Went w Bc Ba B u w1 v1 T1) : ExFr w1 g Bc Ba k p n s V d ch :=
  h.keep fun b hb => hw.2.2.block b (h.lt hb) (h.nm hp h1 h2 hb)
theorem PenAt.put_ {w wm w1 : World} {Bc Ba B : Nat} {u X : Value} {T : List (List UInt8)} {p : Addr} (hp : PenAt w Bc Ba B u T) (h1 : Below w.heap.size w wm) (hn : ¬ Mine Bc Ba u p.block) (h2 : Below w.heap.size (wm.setCell p X) w1) : PenAt w1 Bc Ba B u T :=
  hp.keep fun b hb => (h2.block b (hp.mine hb).2).trans ((Below.heap_setCell _ _ _ _ (fun e => hn (by rw [← e]; exact hb))).trans (h1.block b (hp.mine hb).2))
theorem Chg.put_ {P : Nat → Prop} {w wm w1 : World} {X : Value} {p : Addr} (h1 : Below w.heap.size w wm) (hP : P p.block) (h2 : Below w.heap.size (wm.setCell p X) w1) : Chg P w w1 :=
  ((Chg.of_below (P := P) h1).setCell p X (fun _ => hP)).trans (P' := fun x => w.heap.size ≤ x) ⟨h2.os, h2.tape, h2.output, h2.size, fun k hk hn => h2.block k (by omega)⟩ (fun x hx h => by omega)
theorem Chg.mono {P P' : Nat → Prop} {w w' : World} (h : Chg P w w') (hp : ∀ x, x < w.heap.size → P x → P' x) : Chg P' w w' := ⟨h.os, h.tape, h.output, h.size, fun k hk hn => h.block k hk (fun e => hn (hp k hk e))⟩

theorem arg_yes {w0 w : World} {g Bc Ba B : Nat} {u : Value} {T : List (List UInt8)} {k p n : Int} {s : List UInt8} {V : Value} {d ch : Int} {e : Ex} {es : List Ex} (hb : Below B w0 w) (hB : B ≤ g) (hg1 : Bc < g) (hg2 : Ba < g) (hp : PenAt w Bc Ba B u T)
    (hf : ExFr w g Bc Ba k p n s V d ch) (hr : Reads w0 B (e :: es) V) (hd0 : 0 ≤ d) (hd : d ≤ 50) (ts : List (List UInt8)) (tv : Value) (hts : StrsAt w (fun b => Mine Bc Ba u b ∨ b = g + 1) tv ts) :
    Calls Tryd.prog 51 #[tv, .pointer (some ⟨g, 0, none⟩), .pointer (some ⟨g + 1, 0, none⟩), .pointer (some ⟨g + 1 + 1, 0, none⟩)] w (FrPost w0 w g Bc Ba B u k p n s d ch es (adv T (cat (penE e (d + 1) 0) (some ts)))) := by
  obtain ⟨A, c, rfl, hc, hM, hA⟩ := hr
  obtain ⟨b, off, A5, n5, c5, rfl, hbB, hnm, r0, r1, r2, r3, r4, hWr⟩ := hA 0 (by simp)
  have hrt := hA
  have q0 := cell_of_row w g 0 _ _ (0, 0) hf.put
  have q1 := cell_of_row w (g + 1 + 1) 0 _ _ (0, 0) hf.dp
  have q4 := hf.ex.c4
  have z4 := hf.ex.fr 4
  have up : ∀ {i : Nat} {v : Value}, w0.cell? ⟨b, i, none⟩ = some v → w.cell? ⟨b, i, none⟩ = some v := fun h => (hb.cell hbB).trans h
  have r0 := up r0
  have r1 := up r1
  have r2 := up r2
  have r3 := up r3
  have r4 := up r4
  rw [Nat.zero_mul, Nat.add_zero] at r0 r1 r2 r3 r4
  simp only [List.getElem_cons_zero] at r0 r1 r2 r3 r4 hWr hnm
  have htf := takeFirst_yes ⟨g + 1, 4, none⟩ b off es.length c w.drew _ _ _ _ _ _ _ q4 z4 hc r0 r1 r2 r3 r4
  unfold penV at q0
  simp at q0 q1
  have hwr : IntKind.i64.wrap (d + 1) = d + 1 := IntWalk.i64_in _ ⟨by omega, by omega⟩
  have HTF := Lib.hid htf
  have HWR := Lib.hid hWr
  clear htf hWr r0 r1 r2 r3 r4 q4 z4 hA
  go_enter Tryd.func51, Tryd.ntmps51
  go_wp2_with fail
  refine wp_region_held_drew (S := fun w' => w'.cell? ⟨g, 0, none⟩ = some (.func (.func 47) #[] #[.pointer (some ⟨Bc, 0, none⟩), .pointer (some ⟨Ba, 0, none⟩)]) ∧ w'.cell? ⟨g + 1 + 1, 0, none⟩ = some (.int .i64 d)) (by kernel_rfl) ⟨q0, q1⟩ (fun hHeld => ?_)
  refine wpAnyH_take (i := 0) (oi := _) (v := .func (.func 47) #[] #[.pointer (some ⟨Bc, 0, none⟩), .pointer (some ⟨Ba, 0, none⟩)]) rfl (by kernel_rfl) (by kernel_rfl) (by kernel_rfl) (fun _ _ _ h => h) (Or.inl ⟨by rfl, fun w hS => ?_⟩) hHeld ?_
  · obtain ⟨h1, h2⟩ := hS
    go_simp
  simp only [Act.put]
  refine wpAnyH_take (i := 1) (oi := _) (v := .pointer (some ⟨g + 1, 4, none⟩)) rfl (by kernel_rfl) (by kernel_rfl) (by kernel_rfl) (fun _ _ _ h => h) (Or.inl ⟨by rfl, fun w hS => ?_⟩) hHeld ?_
  · go_simp
  simp only [Act.put]
  refine wpAnyH_take (i := 3) (oi := _) (v := .int .i64 d) rfl (by kernel_rfl) (by kernel_rfl) (by kernel_rfl) (fun _ _ _ h => h) (Or.inl ⟨by rfl, fun w hS => ?_⟩) hHeld ?_
  · obtain ⟨h1, h2⟩ := hS
    go_simp
  simp only [Act.put]
  refine wpAnyH_take (i := 4) (oi := _) (v := .int .i64 (d + 1)) rfl (by kernel_rfl) (by kernel_rfl) (by kernel_rfl) (fun _ _ _ h => h) (Or.inl ⟨by rfl, fun w hS => ?_⟩) hHeld ?_
  · go_simp
  simp only [Act.put]
  refine wpAnyH_ready (rs := [2]) (by kernel_rfl) (by simp) ?_
  refine AllReadyH.cons rfl (fun K hK => ?_) AllReadyH.nil
  go_simp
  refine HTF.out.mono ?_
  rintro e1 w1 ⟨rfl, wm, off', hbm, hbm2, ho⟩
  have hdr : Below w.heap.size w w.drew := Below.drew (Below.refl _ w)
  have hbm : Below w.heap.size w wm := hdr.trans hbm
  have hbm2 : Below w.heap.size (wm.setCell ⟨g + 1, 4, none⟩ (.slice (some ⟨b, off', none⟩) es.length (c - 1))) w1 := hbm2
  have hnm1 := hf.nm hp hg1 hg2 (b := g + 1) (.inr (.inl rfl))
  have hf1 : ExFr w1 g Bc Ba k p n s (.slice (some ⟨b, off', none⟩) es.length (c - 1)) d ch := ((hf.below hbm).set4 _).keep fun x hx => hbm2.block x (hf.lt hx)
  have hp1 : PenAt w1 Bc Ba B u T := hp.put_ (p := ⟨g + 1, 4, none⟩) hbm hnm1 hbm2
  have hch1 : Chg (fun b => Mine Bc Ba u b ∨ b = g + 1) w w1 := Chg.put_ (p := ⟨g + 1, 4, none⟩) hbm (.inr rfl) hbm2
  have hBw : B ≤ w.heap.size := Nat.le_trans hB (Nat.le_of_lt (hf.lt (.inl rfl)))
  have hmB : ∀ x, (Mine Bc Ba u x ∨ x = g + 1) → B ≤ x := fun x hx => by
    rcases hx with hx | hx
    · exact (hp.mine hx).1
    · omega
  have hb1 : Below B w0 w1 := hb.trans (hch1.below hBw hmB)
  have hr1 := Reads.tail (off' := off') (c := c) ⟨_, _, rfl, hc, hM, hrt⟩ ho
  have k0 := cell_of_row w1 g 0 _ _ (0, 0) hf1.put
  have k1 := cell_of_row w1 (g + 1 + 1) 0 _ _ (0, 0) hf1.dp
  unfold penV at k0
  simp at k0 k1
  have HF1 := Lib.hid hf1
  have HP1 := Lib.hid hp1
  have HC1 := Lib.hid hch1
  have HR1 := Lib.hid hr1
  have hcall := HWR.out w1 Bc Ba u T (d + 1) 0 hb1 (Nat.le_trans hBw hch1.size) hp1 (by omega) (by omega) (by omega) (by omega)
  have hs1 : StrsAt w1 (fun b => Mine Bc Ba u b ∨ b = g + 1) tv ts := by
    obtain ⟨A, c, h1, h2, h3, h4⟩ := hts
    exact ⟨A, c, h1, h2, h3, fun k hk => let ⟨b, off, x1, x2, x3, x4⟩ := h4 k hk; ⟨b, off, x1, x2, x3, hch1.cell x4 x2⟩⟩
  have HS1 := Lib.hid hs1
  have HCALL := Lib.hid hcall
  clear hf1 hp1 hch1 hr1 hcall hs1 hrt hts hbm hbm2 hdr
  go_wp2_with fail
  refine hK.out _ _ ⟨k0, k1⟩ (fun hHeld => ?_)
  clear hK K
  refine wpAnyH_ready (rs := [5]) (by kernel_rfl) (by simp) ?_
  refine AllReadyH.cons rfl (fun K hK => ?_) AllReadyH.nil
  go_simp
  refine HCALL.out.mono ?_
  rintro e2 w2 hpost
  cases hR : adv T (penE e (d + 1) 0) with
  | none =>
    rw [hR] at hpost
    obtain ⟨rfl, hch2⟩ := hpost
    have HR := Lib.hid (adv_cat_none hR (some ts))
    have hch : Chg (fun b => Mine Bc Ba u b ∨ b = g + 1) w w2 := HC1.out.trans hch2 (fun x _ hx => .inl hx)
    have HCH := Lib.hid hch
    clear hR hch2 hch
    unfold boom
    go_wp2
    refine ⟨rfl, ?_⟩
    rw [HR.out]
    exact ⟨rfl, HCH.out⟩
  | some T2 =>
    rw [hR] at hpost
    obtain ⟨rfl, u2, hwent⟩ := hpost
    have HEQ := Lib.hid (adv_cat_some hR (some ts))
    have hf2 := HF1.out.went HP1.out hg1 hg2 hwent
    have hs2 := HS1.out.went hwent
    have k02 := cell_of_row w2 g 0 _ _ (0, 0) hf2.put
    have k12 := cell_of_row w2 (g + 1 + 1) 0 _ _ (0, 0) hf2.dp
    unfold penV at k02
    simp at k02 k12
    have hB2 : B ≤ w2.heap.size := Nat.le_trans (Nat.le_trans hBw HC1.out.size) hwent.2.2.size
    have hput := put_any hwent.1 hB2 ts tv hs2
    have HPUT := Lib.hid hput
    have HW2 := Lib.hid hwent
    have HF2 := Lib.hid hf2
    clear hwent hf2 hs2 hput hR k0 k1
    go_wp2_with fail
    refine hK.out _ _ ⟨k02, k12⟩ (fun hHeld => ?_)
    clear hK K
    refine wpAnyH_done (by kernel_rfl) ?_ _
    go_wp2_with fail
    refine HPUT.out.mono ?_
    rintro e3 w3 hpost
    cases hR : adv T2 (some ts) with
    | none =>
      rw [hR] at hpost
      obtain ⟨rfl, hch3⟩ := hpost
      have HR := Lib.hid (HEQ.out.trans hR)
      have hch : Chg (fun b => Mine Bc Ba u b ∨ b = g + 1) w w3 := HC1.out.trans (HW2.out.fell hch3) (fun x _ hx => .inl hx)
      have HCH := Lib.hid hch
      clear hR hch3 hch
      unfold boom
      go_wp2
      refine ⟨rfl, ?_⟩
      rw [HR.out]
      exact ⟨rfl, HCH.out⟩
    | some T3 =>
      rw [hR] at hpost
      obtain ⟨rfl, u3, hwent⟩ := hpost
      have HR := Lib.hid (HEQ.out.trans hR)
      have hf3 := HF2.out.went HW2.out.1 hg1 hg2 hwent
      have hw13 := HW2.out.trans hwent
      have HW13 := Lib.hid hw13
      have HF3 := Lib.hid hf3
      have HSZ := Lib.hid HC1.out.size
      clear hwent hf3 hw13 hR
      go_wp2
      go_end0
      rw [HR.out]
      refine ⟨rfl, u3, _, HW13.out.1, fun x hx => ?_, HC1.out.trans HW13.out.2.2 (fun x _ hx => .inl hx), HF3.out, HR1.out⟩
      rcases HW13.out.2.1 x hx with h | h
      · exact .inl h
      · exact .inr (Nat.le_trans HSZ.out h)

theorem arg_no {w0 w : World} {g Bc Ba B : Nat} {u : Value} {T : List (List UInt8)} {k p n : Int} {s : List UInt8} {V : Value} {d ch : Int} (hb : Below B w0 w) (hB : B ≤ g) (hg1 : Bc < g) (hg2 : Ba < g) (hp : PenAt w Bc Ba B u T)
    (hf : ExFr w g Bc Ba k p n s V d ch) (hr : Reads w0 B [] V) (hd0 : 0 ≤ d) (hd : d ≤ 50) (ts : List (List UInt8)) (tv : Value) (hts : StrsAt w (fun b => Mine Bc Ba u b ∨ b = g + 1) tv ts) :
    Calls Tryd.prog 51 #[tv, .pointer (some ⟨g, 0, none⟩), .pointer (some ⟨g + 1, 0, none⟩), .pointer (some ⟨g + 1 + 1, 0, none⟩)] w (FrPost w0 w g Bc Ba B u k p n s d ch [] none) := by
  obtain ⟨A, c, rfl, hc, hM, hA⟩ := hr
  have q0 := cell_of_row w g 0 _ _ (0, 0) hf.put
  have q1 := cell_of_row w (g + 1 + 1) 0 _ _ (0, 0) hf.dp
  have q4 := hf.ex.c4
  have htf := takeFirst_no ⟨g + 1, 4, none⟩ A c w.drew q4
  unfold penV at q0
  simp at q0 q1
  have hwr : IntKind.i64.wrap (d + 1) = d + 1 := IntWalk.i64_in _ ⟨by omega, by omega⟩
  have HTF := Lib.hid htf
  clear htf q4
  go_enter Tryd.func51, Tryd.ntmps51
  go_wp2_with fail
  refine wp_region_held_drew (S := fun w' => w'.cell? ⟨g, 0, none⟩ = some (.func (.func 47) #[] #[.pointer (some ⟨Bc, 0, none⟩), .pointer (some ⟨Ba, 0, none⟩)]) ∧ w'.cell? ⟨g + 1 + 1, 0, none⟩ = some (.int .i64 d)) (by kernel_rfl) ⟨q0, q1⟩ (fun hHeld => ?_)
  refine wpAnyH_take (i := 0) (oi := _) (v := .func (.func 47) #[] #[.pointer (some ⟨Bc, 0, none⟩), .pointer (some ⟨Ba, 0, none⟩)]) rfl (by kernel_rfl) (by kernel_rfl) (by kernel_rfl) (fun _ _ _ h => h) (Or.inl ⟨by rfl, fun w hS => ?_⟩) hHeld ?_
  · obtain ⟨h1, h2⟩ := hS
    go_simp
  simp only [Act.put]
  refine wpAnyH_take (i := 1) (oi := _) (v := .pointer (some ⟨g + 1, 4, none⟩)) rfl (by kernel_rfl) (by kernel_rfl) (by kernel_rfl) (fun _ _ _ h => h) (Or.inl ⟨by rfl, fun w hS => ?_⟩) hHeld ?_
  · go_simp
  simp only [Act.put]
  refine wpAnyH_take (i := 3) (oi := _) (v := .int .i64 d) rfl (by kernel_rfl) (by kernel_rfl) (by kernel_rfl) (fun _ _ _ h => h) (Or.inl ⟨by rfl, fun w hS => ?_⟩) hHeld ?_
  · obtain ⟨h1, h2⟩ := hS
    go_simp
  simp only [Act.put]
  refine wpAnyH_take (i := 4) (oi := _) (v := .int .i64 (d + 1)) rfl (by kernel_rfl) (by kernel_rfl) (by kernel_rfl) (fun _ _ _ h => h) (Or.inl ⟨by rfl, fun w hS => ?_⟩) hHeld ?_
  · go_simp
  simp only [Act.put]
  refine wpAnyH_ready (rs := [2]) (by kernel_rfl) (by simp) ?_
  refine AllReadyH.cons rfl (fun K hK => ?_) AllReadyH.nil
  go_simp
  refine HTF.out.mono ?_
  rintro e1 w1 ⟨rfl, hbm⟩
  have HB := Lib.hid hbm
  clear hbm
  unfold boom
  go_wp2
  refine ⟨rfl, rfl, ?_⟩
  exact Chg.of_below ((Below.drew (Below.refl _ w)).trans HB.out)

theorem obj_yes {w0 w : World} {g Bc Ba B : Nat} {u : Value} {T : List (List UInt8)} {k p n : Int} {s : List UInt8} {V : Value} {d ch : Int} {e : Ex} {es : List Ex} (hb : Below B w0 w) (hB : B ≤ g) (hg1 : Bc < g) (hg2 : Ba < g) (hp : PenAt w Bc Ba B u T)
    (hf : ExFr w g Bc Ba k p n s V d ch) (hr : Reads w0 B (e :: es) V) (hd0 : 0 ≤ d) (hd : d ≤ 50) (hch0 : 0 ≤ ch) (hch8 : ch < 8) (ts : List (List UInt8)) (tv : Value) (hts : StrsAt w (fun b => Mine Bc Ba u b ∨ b = g + 1) tv ts) :
    Calls Tryd.prog 53 #[tv, .pointer (some ⟨g + 1 + 1 + 1, 0, none⟩), .pointer (some ⟨g, 0, none⟩), .pointer (some ⟨g + 1, 0, none⟩), .pointer (some ⟨g + 1 + 1, 0, none⟩)] w (FrPost w0 w g Bc Ba B u k p n s d ch es (adv T (cat (penE e d (ch + 1)) (some ts)))) := by
  obtain ⟨A, c, rfl, hc, hM, hA⟩ := hr
  obtain ⟨b, off, A5, n5, c5, rfl, hbB, hnm, r0, r1, r2, r3, r4, hWr⟩ := hA 0 (by simp)
  have hrt := hA
  have q0 := cell_of_row w g 0 _ _ (0, 0) hf.put
  have q1 := cell_of_row w (g + 1 + 1) 0 _ _ (0, 0) hf.dp
  have q4 := hf.ex.c4
  have z4 := hf.ex.fr 4
  have up : ∀ {i : Nat} {v : Value}, w0.cell? ⟨b, i, none⟩ = some v → w.cell? ⟨b, i, none⟩ = some v := fun h => (hb.cell hbB).trans h
  have r0 := up r0
  have r1 := up r1
  have r2 := up r2
  have r3 := up r3
  have r4 := up r4
  rw [Nat.zero_mul, Nat.add_zero] at r0 r1 r2 r3 r4
  simp only [List.getElem_cons_zero] at r0 r1 r2 r3 r4 hWr hnm
  have htf := takeFirst_yes ⟨g + 1, 4, none⟩ b off es.length c w.drew _ _ _ _ _ _ _ q4 z4 hc r0 r1 r2 r3 r4
  unfold penV at q0
  simp at q0 q1
  have hwr : IntKind.i64.wrap (ch + 1) = ch + 1 := IntWalk.i64_in _ ⟨by omega, by omega⟩
  have q3 := cell_of_row w (g + 1 + 1 + 1) 0 _ _ (0, 0) hf.cn
  simp at q3
  have HTF := Lib.hid htf
  have HWR := Lib.hid hWr
  clear htf hWr r0 r1 r2 r3 r4 q4 z4 hA
  go_enter Tryd.func53, Tryd.ntmps53
  go_wp2_with fail
  refine (must_yes _).mono ?_
  rintro e1 w1 ⟨rfl, rfl⟩
  go_wp2_with fail
  refine wp_region_held_drew (S := fun w' => w'.cell? ⟨g, 0, none⟩ = some (.func (.func 47) #[] #[.pointer (some ⟨Bc, 0, none⟩), .pointer (some ⟨Ba, 0, none⟩)]) ∧ w'.cell? ⟨g + 1 + 1, 0, none⟩ = some (.int .i64 d) ∧ w'.cell? ⟨g + 1 + 1 + 1, 0, none⟩ = some (.int .i64 ch)) (by kernel_rfl) ⟨q0, q1, q3⟩ (fun hHeld => ?_)
  refine wpAnyH_take (i := 0) (oi := _) (v := .func (.func 47) #[] #[.pointer (some ⟨Bc, 0, none⟩), .pointer (some ⟨Ba, 0, none⟩)]) rfl (by kernel_rfl) (by kernel_rfl) (by kernel_rfl) (fun _ _ _ h => h) (Or.inl ⟨by rfl, fun w hS => ?_⟩) hHeld ?_
  · obtain ⟨h1, h2, h3⟩ := hS
    go_simp
  simp only [Act.put]
  refine wpAnyH_take (i := 1) (oi := _) (v := .pointer (some ⟨g + 1, 4, none⟩)) rfl (by kernel_rfl) (by kernel_rfl) (by kernel_rfl) (fun _ _ _ h => h) (Or.inl ⟨by rfl, fun w hS => ?_⟩) hHeld ?_
  · go_simp
  simp only [Act.put]
  refine wpAnyH_take (i := 3) (oi := _) (v := .int .i64 d) rfl (by kernel_rfl) (by kernel_rfl) (by kernel_rfl) (fun _ _ _ h => h) (Or.inl ⟨by rfl, fun w hS => ?_⟩) hHeld ?_
  · obtain ⟨h1, h2, h3⟩ := hS
    go_simp
  simp only [Act.put]
  refine wpAnyH_take (i := 4) (oi := _) (v := .int .i64 ch) rfl (by kernel_rfl) (by kernel_rfl) (by kernel_rfl) (fun _ _ _ h => h) (Or.inl ⟨by rfl, fun w hS => ?_⟩) hHeld ?_
  · obtain ⟨h1, h2, h3⟩ := hS
    go_simp
  simp only [Act.put]
  refine wpAnyH_take (i := 5) (oi := _) (v := .int .i64 (ch + 1)) rfl (by kernel_rfl) (by kernel_rfl) (by kernel_rfl) (fun _ _ _ h => h) (Or.inl ⟨by rfl, fun w hS => ?_⟩) hHeld ?_
  · go_simp
  simp only [Act.put]
  refine wpAnyH_ready (rs := [2]) (by kernel_rfl) (by simp) ?_
  refine AllReadyH.cons rfl (fun K hK => ?_) AllReadyH.nil
  go_simp
  refine HTF.out.mono ?_
  rintro e1 w1 ⟨rfl, wm, off', hbm, hbm2, ho⟩
  have hdr : Below w.heap.size w w.drew := Below.drew (Below.refl _ w)
  have hbm : Below w.heap.size w wm := hdr.trans hbm
  have hbm2 : Below w.heap.size (wm.setCell ⟨g + 1, 4, none⟩ (.slice (some ⟨b, off', none⟩) es.length (c - 1))) w1 := hbm2
  have hnm1 := hf.nm hp hg1 hg2 (b := g + 1) (.inr (.inl rfl))
  have hf1 : ExFr w1 g Bc Ba k p n s (.slice (some ⟨b, off', none⟩) es.length (c - 1)) d ch := ((hf.below hbm).set4 _).keep fun x hx => hbm2.block x (hf.lt hx)
  have hp1 : PenAt w1 Bc Ba B u T := hp.put_ (p := ⟨g + 1, 4, none⟩) hbm hnm1 hbm2
  have hch1 : Chg (fun b => Mine Bc Ba u b ∨ b = g + 1) w w1 := Chg.put_ (p := ⟨g + 1, 4, none⟩) hbm (.inr rfl) hbm2
  have hBw : B ≤ w.heap.size := Nat.le_trans hB (Nat.le_of_lt (hf.lt (.inl rfl)))
  have hmB : ∀ x, (Mine Bc Ba u x ∨ x = g + 1) → B ≤ x := fun x hx => by
    rcases hx with hx | hx
    · exact (hp.mine hx).1
    · omega
  have hb1 : Below B w0 w1 := hb.trans (hch1.below hBw hmB)
  have hr1 := Reads.tail (off' := off') (c := c) ⟨_, _, rfl, hc, hM, hrt⟩ ho
  have k0 := cell_of_row w1 g 0 _ _ (0, 0) hf1.put
  have k1 := cell_of_row w1 (g + 1 + 1) 0 _ _ (0, 0) hf1.dp
  unfold penV at k0
  simp at k0 k1
  have k3 := cell_of_row w1 (g + 1 + 1 + 1) 0 _ _ (0, 0) hf1.cn
  simp at k3
  have HF1 := Lib.hid hf1
  have HP1 := Lib.hid hp1
  have HC1 := Lib.hid hch1
  have HR1 := Lib.hid hr1
  have hcall := HWR.out w1 Bc Ba u T d (ch + 1) hb1 (Nat.le_trans hBw hch1.size) hp1 (by omega) (by omega) (by omega) (by omega)
  have hs1 : StrsAt w1 (fun b => Mine Bc Ba u b ∨ b = g + 1) tv ts := by
    obtain ⟨A, c, h1, h2, h3, h4⟩ := hts
    exact ⟨A, c, h1, h2, h3, fun k hk => let ⟨b, off, x1, x2, x3, x4⟩ := h4 k hk; ⟨b, off, x1, x2, x3, hch1.cell x4 x2⟩⟩
  have HS1 := Lib.hid hs1
  have HCALL := Lib.hid hcall
  clear hf1 hp1 hch1 hr1 hcall hs1 hrt hts hbm hbm2 hdr
  go_wp2_with fail
  refine hK.out _ _ ⟨k0, k1, k3⟩ (fun hHeld => ?_)
  clear hK K
  refine wpAnyH_ready (rs := [6]) (by kernel_rfl) (by simp) ?_
  refine AllReadyH.cons rfl (fun K hK => ?_) AllReadyH.nil
  go_simp
  refine HCALL.out.mono ?_
  rintro e2 w2 hpost
  cases hR : adv T (penE e d (ch + 1)) with
  | none =>
    rw [hR] at hpost
    obtain ⟨rfl, hch2⟩ := hpost
    have HR := Lib.hid (adv_cat_none hR (some ts))
    have hch : Chg (fun b => Mine Bc Ba u b ∨ b = g + 1) w w2 := HC1.out.trans hch2 (fun x _ hx => .inl hx)
    have HCH := Lib.hid hch
    clear hR hch2 hch
    unfold boom
    go_wp2
    refine ⟨rfl, ?_⟩
    rw [HR.out]
    exact ⟨rfl, HCH.out⟩
  | some T2 =>
    rw [hR] at hpost
    obtain ⟨rfl, u2, hwent⟩ := hpost
    have HEQ := Lib.hid (adv_cat_some hR (some ts))
    have hf2 := HF1.out.went HP1.out hg1 hg2 hwent
    have hs2 := HS1.out.went hwent
    have k02 := cell_of_row w2 g 0 _ _ (0, 0) hf2.put
    have k12 := cell_of_row w2 (g + 1 + 1) 0 _ _ (0, 0) hf2.dp
    unfold penV at k02
    simp at k02 k12
    have k32 := cell_of_row w2 (g + 1 + 1 + 1) 0 _ _ (0, 0) hf2.cn
    simp at k32
    have hB2 : B ≤ w2.heap.size := Nat.le_trans (Nat.le_trans hBw HC1.out.size) hwent.2.2.size
    have hput := put_any hwent.1 hB2 ts tv hs2
    have HPUT := Lib.hid hput
    have HW2 := Lib.hid hwent
    have HF2 := Lib.hid hf2
    clear hwent hf2 hs2 hput hR k0 k1 k3
    go_wp2_with fail
    refine hK.out _ _ ⟨k02, k12, k32⟩ (fun hHeld => ?_)
    clear hK K
    refine wpAnyH_done (by kernel_rfl) ?_ _
    go_wp2_with fail
    refine HPUT.out.mono ?_
    rintro e3 w3 hpost
    cases hR : adv T2 (some ts) with
    | none =>
      rw [hR] at hpost
      obtain ⟨rfl, hch3⟩ := hpost
      have HR := Lib.hid (HEQ.out.trans hR)
      have hch : Chg (fun b => Mine Bc Ba u b ∨ b = g + 1) w w3 := HC1.out.trans (HW2.out.fell hch3) (fun x _ hx => .inl hx)
      have HCH := Lib.hid hch
      clear hR hch3 hch
      unfold boom
      go_wp2
      refine ⟨rfl, ?_⟩
      rw [HR.out]
      exact ⟨rfl, HCH.out⟩
    | some T3 =>
      rw [hR] at hpost
      obtain ⟨rfl, u3, hwent⟩ := hpost
      have HR := Lib.hid (HEQ.out.trans hR)
      have hf3 := HF2.out.went HW2.out.1 hg1 hg2 hwent
      have hw13 := HW2.out.trans hwent
      have HW13 := Lib.hid hw13
      have HF3 := Lib.hid hf3
      have HSZ := Lib.hid HC1.out.size
      clear hwent hf3 hw13 hR
      go_wp2
      go_end0
      rw [HR.out]
      refine ⟨rfl, u3, _, HW13.out.1, fun x hx => ?_, HC1.out.trans HW13.out.2.2 (fun x _ hx => .inl hx), HF3.out, HR1.out⟩
      rcases HW13.out.2.1 x hx with h | h
      · exact .inl h
      · exact .inr (Nat.le_trans HSZ.out h)

theorem obj_no {w0 w : World} {g Bc Ba B : Nat} {u : Value} {T : List (List UInt8)} {k p n : Int} {s : List UInt8} {V : Value} {d ch : Int} (hb : Below B w0 w) (hB : B ≤ g) (hg1 : Bc < g) (hg2 : Ba < g) (hp : PenAt w Bc Ba B u T)
    (hf : ExFr w g Bc Ba k p n s V d ch) (hr : Reads w0 B [] V) (hd0 : 0 ≤ d) (hd : d ≤ 50) (hch0 : 0 ≤ ch) (hch8 : ch < 8) (ts : List (List UInt8)) (tv : Value) (hts : StrsAt w (fun b => Mine Bc Ba u b ∨ b = g + 1) tv ts) :
    Calls Tryd.prog 53 #[tv, .pointer (some ⟨g + 1 + 1 + 1, 0, none⟩), .pointer (some ⟨g, 0, none⟩), .pointer (some ⟨g + 1, 0, none⟩), .pointer (some ⟨g + 1 + 1, 0, none⟩)] w (FrPost w0 w g Bc Ba B u k p n s d ch [] none) := by
  obtain ⟨A, c, rfl, hc, hM, hA⟩ := hr
  have q0 := cell_of_row w g 0 _ _ (0, 0) hf.put
  have q1 := cell_of_row w (g + 1 + 1) 0 _ _ (0, 0) hf.dp
  have q4 := hf.ex.c4
  have htf := takeFirst_no ⟨g + 1, 4, none⟩ A c w.drew q4
  unfold penV at q0
  simp at q0 q1
  have hwr : IntKind.i64.wrap (ch + 1) = ch + 1 := IntWalk.i64_in _ ⟨by omega, by omega⟩
  have q3 := cell_of_row w (g + 1 + 1 + 1) 0 _ _ (0, 0) hf.cn
  simp at q3
  have HTF := Lib.hid htf
  clear htf q4
  go_enter Tryd.func53, Tryd.ntmps53
  go_wp2_with fail
  refine (must_yes _).mono ?_
  rintro e1 w1 ⟨rfl, rfl⟩
  go_wp2_with fail
  refine wp_region_held_drew (S := fun w' => w'.cell? ⟨g, 0, none⟩ = some (.func (.func 47) #[] #[.pointer (some ⟨Bc, 0, none⟩), .pointer (some ⟨Ba, 0, none⟩)]) ∧ w'.cell? ⟨g + 1 + 1, 0, none⟩ = some (.int .i64 d) ∧ w'.cell? ⟨g + 1 + 1 + 1, 0, none⟩ = some (.int .i64 ch)) (by kernel_rfl) ⟨q0, q1, q3⟩ (fun hHeld => ?_)
  refine wpAnyH_take (i := 0) (oi := _) (v := .func (.func 47) #[] #[.pointer (some ⟨Bc, 0, none⟩), .pointer (some ⟨Ba, 0, none⟩)]) rfl (by kernel_rfl) (by kernel_rfl) (by kernel_rfl) (fun _ _ _ h => h) (Or.inl ⟨by rfl, fun w hS => ?_⟩) hHeld ?_
  · obtain ⟨h1, h2, h3⟩ := hS
    go_simp
  simp only [Act.put]
  refine wpAnyH_take (i := 1) (oi := _) (v := .pointer (some ⟨g + 1, 4, none⟩)) rfl (by kernel_rfl) (by kernel_rfl) (by kernel_rfl) (fun _ _ _ h => h) (Or.inl ⟨by rfl, fun w hS => ?_⟩) hHeld ?_
  · go_simp
  simp only [Act.put]
  refine wpAnyH_take (i := 3) (oi := _) (v := .int .i64 d) rfl (by kernel_rfl) (by kernel_rfl) (by kernel_rfl) (fun _ _ _ h => h) (Or.inl ⟨by rfl, fun w hS => ?_⟩) hHeld ?_
  · obtain ⟨h1, h2, h3⟩ := hS
    go_simp
  simp only [Act.put]
  refine wpAnyH_take (i := 4) (oi := _) (v := .int .i64 ch) rfl (by kernel_rfl) (by kernel_rfl) (by kernel_rfl) (fun _ _ _ h => h) (Or.inl ⟨by rfl, fun w hS => ?_⟩) hHeld ?_
  · obtain ⟨h1, h2, h3⟩ := hS
    go_simp
  simp only [Act.put]
  refine wpAnyH_take (i := 5) (oi := _) (v := .int .i64 (ch + 1)) rfl (by kernel_rfl) (by kernel_rfl) (by kernel_rfl) (fun _ _ _ h => h) (Or.inl ⟨by rfl, fun w hS => ?_⟩) hHeld ?_
  · go_simp
  simp only [Act.put]
  refine wpAnyH_ready (rs := [2]) (by kernel_rfl) (by simp) ?_
  refine AllReadyH.cons rfl (fun K hK => ?_) AllReadyH.nil
  go_simp
  refine HTF.out.mono ?_
  rintro e1 w1 ⟨rfl, hbm⟩
  have HB := Lib.hid hbm
  clear hbm
  unfold boom
  go_wp2
  refine ⟨rfl, rfl, ?_⟩
  exact Chg.of_below ((Below.drew (Below.refl _ w)).trans HB.out)

theorem obj_deep {w0 w : World} {g Bc Ba B : Nat} {u : Value} {T : List (List UInt8)} {k p n : Int} {s : List UInt8} {V : Value} {d ch : Int} (hb : Below B w0 w) (hB : B ≤ g) (hg1 : Bc < g) (hg2 : Ba < g) (hp : PenAt w Bc Ba B u T)
    (hf : ExFr w g Bc Ba k p n s V d ch) (hd0 : 0 ≤ d) (hd : d ≤ 50) (hch0 : 0 ≤ ch) (hch8 : ¬ ch < 8) (ts : List (List UInt8)) (tv : Value) (hts : StrsAt w (fun b => Mine Bc Ba u b ∨ b = g + 1) tv ts) :
    Calls Tryd.prog 53 #[tv, .pointer (some ⟨g + 1 + 1 + 1, 0, none⟩), .pointer (some ⟨g, 0, none⟩), .pointer (some ⟨g + 1, 0, none⟩), .pointer (some ⟨g + 1 + 1, 0, none⟩)] w (FrPost w0 w g Bc Ba B u k p n s d ch [] none) := by
  have q3 := cell_of_row w (g + 1 + 1 + 1) 0 _ _ (0, 0) hf.cn
  simp at q3
  go_enter Tryd.func53, Tryd.ntmps53
  go_wp2_with fail
  refine (must_no _).mono ?_
  rintro e1 w1 ⟨rfl, rfl⟩
  unfold boom
  go_wp2
  exact ⟨rfl, rfl, Chg.refl _ _⟩

end Go.Proofs.YtmbkjabjcphkbaaDoor
end
section
/- The walk of an expression: what its kinds share. -/
set_option linter.unusedVariables false
namespace Go.Proofs.YtmbkjabjcphkbaaDoor
open Go.RowKit

theorem fr_new {w X : World} {g Bc Ba : Nat} {k p n d ch : Int} {s : List UInt8} {V : Value} (hX : X = (((w.alloc (.cells #[penV Bc Ba] 63)).alloc (.cells #[.int .i64 k, .int .i64 p, .int .i64 n, .string (strOf s), V] 24)).alloc (.cells #[.int .i64 d] 3)).alloc (.cells #[.int .i64 ch] 3))
    (hg : g = w.heap.size) : ExFr X g Bc Ba k p n s V d ch ∧ X.heap.size = g + 4 := by
  subst hg
  refine ⟨⟨?_, ?_, ?_, ?_⟩, by rw [hX]; simp⟩
  · rw [hX, Below.heap_alloc _ _ _ (by simp; omega), Below.heap_alloc _ _ _ (by simp; omega), Below.heap_alloc _ _ _ (by simp)]; exact heap_alloc_new _ _
  · unfold ExBlk
    rw [hX, Below.heap_alloc _ _ _ (by simp), Below.heap_alloc _ _ _ (by simp)]
    have := heap_alloc_new (w.alloc (.cells #[penV Bc Ba] 63)) (.cells #[.int .i64 k, .int .i64 p, .int .i64 n, .string (strOf s), V] 24)
    simpa using this
  · rw [hX, Below.heap_alloc _ _ _ (by simp)]
    have := heap_alloc_new ((w.alloc (.cells #[penV Bc Ba] 63)).alloc (.cells #[.int .i64 k, .int .i64 p, .int .i64 n, .string (strOf s), V] 24)) (.cells #[.int .i64 d] 3)
    simpa using this
  · rw [hX]
    have := heap_alloc_new (((w.alloc (.cells #[penV Bc Ba] 63)).alloc (.cells #[.int .i64 k, .int .i64 p, .int .i64 n, .string (strOf s), V] 24)).alloc (.cells #[.int .i64 d] 3)) (.cells #[.int .i64 ch] 3)
    simpa using this
section
variable {w w1 w2 : World} {g Bc Ba B : Nat} {k p n : Int} {s : List UInt8} {V u v1 : Value} {d ch : Int} {T T1 : List (List UInt8)}
theorem ExFr.drew (h : ExFr w g Bc Ba k p n s V d ch) : ExFr w.drew g Bc Ba k p n s V d ch := h.keep fun _ _ => rfl
theorem Went.loc (h : Went w Bc Ba B u w1 v1 T1) (hc : Chg (fun b => b = g + 1) w1 w2) (hg : w.heap.size ≤ g + 1) (hn : ¬ Mine Bc Ba v1 (g + 1)) : Went w Bc Ba B u w2 v1 T1 :=
  ⟨h.1.keep fun b hb => hc.block b (h.1.mine hb).2 (fun e => hn (by rw [← e]; exact hb)), h.2.1, h.2.2.trans hc fun x hx e => by omega⟩
theorem ExFr.pc (h : ExFr w g Bc Ba k p n s V d ch) : w.cell? ⟨g, 0, none⟩ = some (.func (.func 47) #[] #[.pointer (some ⟨Bc, 0, none⟩), .pointer (some ⟨Ba, 0, none⟩)]) := by
  rw [cell_of_row w g 0 _ _ (0, 0) h.put]; rfl
/-- how name() ends -/
theorem name_yes (hf : ExFr w g Bc Ba k p n s V d ch) (hs : s.length ≤ 40000) (hn : nameB s = true) :
    Calls Tryd.prog 49 #[.pointer (some ⟨g + 1, 0, none⟩)] w fun e w' => e = .returned (.string (strOf s)) ∧ Chg (fun b => b = g + 1) w w' ∧ ExFr w' g Bc Ba k p n [] V d ch := by
  have hc := hf.ex.c3
  have hz := hf.ex.fr 3
  have hsz : (strOf s).size ≤ 40000 := by rw [Lib.size_eq, strOf_data]; exact hs
  have HN := Lib.hid (takeName_yes ⟨g + 1, 3, none⟩ (strOf s) w hc hz hsz hn)
  clear hc hz hsz hn hs
  go_enter Tryd.func49, Tryd.ntmps49
  go_wp2_with fail
  refine HN.out.mono ?_
  rintro e w1 ⟨rfl, wm, hb, hw⟩
  have HB := Lib.hid hb
  clear hb
  go_wp2_with fail
  go_ret
  refine ⟨rfl, ?_, ?_⟩
  · exact (Chg.of_below HB.out).setCell _ _ (fun _ => rfl)
  · exact (hf.below HB.out).set3 []
theorem name_no (hf : ExFr w g Bc Ba k p n s V d ch) (hs : s.length ≤ 40000) (hn : nameB s = false) :
    Calls Tryd.prog 49 #[.pointer (some ⟨g + 1, 0, none⟩)] w fun e w' => e = boom ∧ Below w.heap.size w w' := by
  have hc := hf.ex.c3
  have hsz : (strOf s).size ≤ 40000 := by rw [Lib.size_eq, strOf_data]; exact hs
  have HN := Lib.hid (takeName_no ⟨g + 1, 3, none⟩ (strOf s) w hc hsz hn)
  clear hc hsz hn hs
  go_enter Tryd.func49, Tryd.ntmps49
  go_wp2_with fail
  refine HN.out.mono ?_
  rintro e w1 ⟨rfl, hb⟩
  have HB := Lib.hid hb
  clear hb
  unfold boom
  go_wp2
  exact ⟨rfl, rfl, HB.out⟩
end

theorem FrPost.alloc_ {w0 w w' : World} {o : Obj} {g Bc Ba B : Nat} {u : Value} {k p n : Int} {s : List UInt8} {d ch : Int} {rest : List Ex} {R : Ts} {e : Ending} (h : FrPost w0 (w.alloc o) g Bc Ba B u k p n s d ch rest R e w') : FrPost w0 w g Bc Ba B u k p n s d ch rest R e w' := by
  have ha : ∀ P, Chg P w (w.alloc o) := fun P => (Chg.refl P w).alloc o
  cases R with
  | none => exact ⟨h.1, (ha _).trans h.2 (fun _ _ hx => hx)⟩
  | some T' =>
    obtain ⟨h1, u', V', h2, h3, h4, h5, h6⟩ := h
    refine ⟨h1, u', V', h2, fun b hb => ?_, (ha _).trans h4 (fun _ _ hx => hx), h5, h6⟩
    rcases h3 b hb with h | h
    · exact .inl h
    · right; simp at h; omega
section
variable {w0 w : World} {g Bc Ba B : Nat} {k p n : Int} {s : List UInt8} {V u : Value} {d ch : Int} {T : List (List UInt8)} {args : List Ex}
theorem arg_new (hb : Below B w0 w) (hB : B ≤ g) (hg1 : Bc < g) (hg2 : Ba < g) (hp : PenAt w Bc Ba B u T) (hf : ExFr w g Bc Ba k p n s V d ch) (hr : Reads w0 B args V) (hd0 : 0 ≤ d) (hd : d ≤ 50) (ts : List (List UInt8)) (hl : ∀ t ∈ ts, t.length ≤ 40000) (hn : ts.length ≤ 1000) :
    Calls Tryd.prog 51 #[.slice (some ⟨w.heap.size, 0, none⟩) ts.length ts.length, .pointer (some ⟨g, 0, none⟩), .pointer (some ⟨g + 1, 0, none⟩), .pointer (some ⟨g + 1 + 1, 0, none⟩)] (w.alloc (.cells (strCells ts) 9))
      (FrPost w0 w g Bc Ba B u k p n s d ch args.tail (adv T (argC args d ts))) := by
  have hBw : B ≤ w.heap.size := Nat.le_trans hB (Nat.le_of_lt (hf.lt (.inl rfl)))
  have hb' : Below B w0 (w.alloc (.cells (strCells ts) 9)) := hb.alloc hBw _
  have hf' : ExFr (w.alloc (.cells (strCells ts) 9)) g Bc Ba k p n s V d ch := hf.below ((Below.refl _ w).alloc (Nat.le_refl _) _)
  have hs := strs_new w (fun b => Mine Bc Ba u b ∨ b = g + 1) ts hl (by omega) (fun hm => by
    rcases hm with hm | hm
    · have := (hp.mine hm).2; omega
    · have := hf.lt (b := g + 1) (.inr (.inl rfl)); omega)
  cases args with
  | nil => exact (arg_no hb' hB hg1 hg2 (hp.alloc _) hf' hr hd0 hd ts _ hs).mono fun e w' h => h.alloc_
  | cons e es => exact (arg_yes hb' hB hg1 hg2 (hp.alloc _) hf' hr hd0 hd ts _ hs).mono fun e w' h => h.alloc_
theorem obj_new (hb : Below B w0 w) (hB : B ≤ g) (hg1 : Bc < g) (hg2 : Ba < g) (hp : PenAt w Bc Ba B u T) (hf : ExFr w g Bc Ba k p n s V d ch) (hr : Reads w0 B args V) (hd0 : 0 ≤ d) (hd : d ≤ 50) (hc0 : 0 ≤ ch) (ts : List (List UInt8)) (hl : ∀ t ∈ ts, t.length ≤ 40000) (hn : ts.length ≤ 1000) :
    Calls Tryd.prog 53 #[.slice (some ⟨w.heap.size, 0, none⟩) ts.length ts.length, .pointer (some ⟨g + 1 + 1 + 1, 0, none⟩), .pointer (some ⟨g, 0, none⟩), .pointer (some ⟨g + 1, 0, none⟩), .pointer (some ⟨g + 1 + 1, 0, none⟩)] (w.alloc (.cells (strCells ts) 9))
      (FrPost w0 w g Bc Ba B u k p n s d ch args.tail (adv T (objC args d ch ts))) := by
  have hBw : B ≤ w.heap.size := Nat.le_trans hB (Nat.le_of_lt (hf.lt (.inl rfl)))
  have hb' : Below B w0 (w.alloc (.cells (strCells ts) 9)) := hb.alloc hBw _
  have hf' : ExFr (w.alloc (.cells (strCells ts) 9)) g Bc Ba k p n s V d ch := hf.below ((Below.refl _ w).alloc (Nat.le_refl _) _)
  have hs := strs_new w (fun b => Mine Bc Ba u b ∨ b = g + 1) ts hl (by omega) (fun hm => by
    rcases hm with hm | hm
    · have := (hp.mine hm).2; omega
    · have := hf.lt (b := g + 1) (.inr (.inl rfl)); omega)
  by_cases h8 : ch < 8
  · cases args with
    | nil => 
      rw [show objC [] d ch ts = none from by unfold objC; rw [if_pos h8]]
      exact (obj_no hb' hB hg1 hg2 (hp.alloc _) hf' hr hd0 hd hc0 h8 ts _ hs).mono fun e w' h => h.alloc_
    | cons e es =>
      rw [show objC (e :: es) d ch ts = cat (penE e d (ch + 1)) (some ts) from by unfold objC; rw [if_pos h8]]
      exact (obj_yes hb' hB hg1 hg2 (hp.alloc _) hf' hr hd0 hd hc0 h8 ts _ hs).mono fun e w' h => h.alloc_
  · rw [objC_no h8]
    exact (obj_deep hb' hB hg1 hg2 (hp.alloc _) hf' hd0 hd hc0 h8 ts _ hs).mono fun e w' h => ⟨h.alloc_.1, h.alloc_.2⟩
theorem Went.fr {w w1 w2 : World} {v1 u2 : Value} {T1 T2 : List (List UInt8)} (h : Went w Bc Ba B u w1 v1 T1) (hg : w.heap.size ≤ g) (hp : PenAt w2 Bc Ba B u2 T2) (ho : ∀ b, u2.ownBlock = some b → v1.ownBlock = some b ∨ w1.heap.size ≤ b) (hc : Chg (fun b => Mine Bc Ba v1 b ∨ b = g + 1) w1 w2) : Went w Bc Ba B u w2 u2 T2 := by
  refine ⟨hp, fun b hb => ?_, h.2.2.trans hc fun x hx hm => ?_⟩
  · rcases ho b hb with h1 | h1
    · exact h.2.1 b h1
    · have := h.2.2.size; exact .inr (by omega)
  · rcases hm with hm | hm
    · exact h.mine hm hx
    · omega
theorem Went.fell_fr {w w1 w2 : World} {v1 : Value} {T1 : List (List UInt8)} (h : Went w Bc Ba B u w1 v1 T1) (hg : w.heap.size ≤ g) (hc : Chg (fun b => Mine Bc Ba v1 b ∨ b = g + 1) w1 w2) : Chg (Mine Bc Ba u) w w2 :=
  h.2.2.trans hc fun x hx hm => by
    rcases hm with hm | hm
    · exact h.mine hm hx
    · omega
end

end Go.Proofs.YtmbkjabjcphkbaaDoor
end
section
/- The walks of an expression, kind by kind. -/
set_option linter.unusedVariables false
namespace Go.Proofs.YtmbkjabjcphkbaaDoor
open Go.RowKit

set_option maxRecDepth 100000 in
set_option maxHeartbeats 2000000 in
theorem expr_3 {w0 w : World} {Bc Ba B : Nat} {u : Value} {T : List (List UInt8)} {p n : Int} {s : List UInt8} {r : Value} {args : List Ex} {d ch : Int} (hb : Below B w0 w) (hB : B ≤ w.heap.size) (hp : PenAt w Bc Ba B u T) (hd0 : 0 ≤ d) (hd : d ≤ 24) (hc0 : 0 ≤ ch) (hr : Reads w0 B args r) (hs : s.length ≤ 40000) :
    Calls Tryd.prog 28 #[penV Bc Ba, .agg #[.int .i64 3, .int .i64 p, .int .i64 n, .string (strOf s), r], .int .i64 d, .int .i64 ch] w (PenPost w Bc Ba B u (adv T (penE (.mk 3 p n s args) d ch))) := by
  have hmf : ∀ (fn : Fn) (first cap : Array Value) (w : World), (Instr.makeFunc fn first cap).run Tryd.prog w = .ok (.func fn first cap) w := fun _ _ _ _ => rfl
  obtain ⟨A, c, hrv, _, _, _⟩ := id hr
  subst hrv
  obtain ⟨X, hX⟩ : ∃ X : World, X = (((w.alloc (.cells #[penV Bc Ba] 63)).alloc (.cells #[.int .i64 3, .int .i64 p, .int .i64 n, .string (strOf s), .slice A args.length c] 24)).alloc (.cells #[.int .i64 d] 3)).alloc (.cells #[.int .i64 ch] 3) := ⟨_, rfl⟩
  obtain ⟨g, hg⟩ : ∃ g, g = w.heap.size := ⟨_, rfl⟩
  obtain ⟨hf, hsz⟩ := fr_new hX hg
  have hw : Went w Bc Ba B u X u T := by rw [hX]; exact ((((Went.refl hp).alloc _).alloc _).alloc _).alloc _
  have e0 := hf.ex.c0
  have hg1 : Bc < g := by rw [hg]; exact lt_of_heap hp.cnt
  have hg2 : Ba < g := by rw [hg]; exact lt_of_heap hp.buf
  have hBg : B ≤ g := by rw [hg]; exact hB
  have hwg : w.heap.size ≤ g := by rw [hg]; exact Nat.le_refl _
  have hd50 : d ≤ 50 := by omega
  have HEQ := Lib.hid (congrArg (adv T) (penE_3 p n s args d ch hd))
  have HX := Lib.hid hX
  have HG := Lib.hid hg
  have HF := Lib.hid hf
  have HW := Lib.hid hw
  have HR := Lib.hid hr
  clear hX hg hf hw hsz hr
  unfold penV at HX ⊢
  go_enter Tryd.func28, Tryd.ntmps28
  go_wp2_with fail
  rw [← HX.out, ← HG.out]
  refine (must_yes _).mono ?_
  rintro e1 w1 ⟨rfl, rfl⟩
  have pc1 := (HF.out).pc
  go_wp2_with fail
  refine (put_new (Went.refl (HW.out).1) (Nat.le_trans hB (HW.out).2.2.size) [[110, 105, 108]] (by intro t ht; simp at ht; have := hs; first | (rcases ht with rfl | rfl | rfl <;> first | decide | exact hs | simp) | (rw [ht]; first | decide | exact hs) | (rw [ht]; simp)) (by simp)).mono ?_
  rintro e2 w2 hpost
  cases hR : adv T (some [[110, 105, 108]]) with
  | none =>
    rw [hR] at hpost
    obtain ⟨rfl, hch⟩ := hpost
    have HNO := Lib.hid ((HEQ.out).trans (adv_cat_none hR _))
    have HCH := Lib.hid ((HW.out).fell hch)
    clear hR hch
    unfold boom
    go_wp2
    refine ⟨rfl, ?_⟩
    rw [HNO.out]
    exact ⟨rfl, HCH.out⟩
  | some T2 =>
    rw [hR] at hpost
    obtain ⟨rfl, u2, hwent⟩ := hpost
    have HW2 := Lib.hid ((HW.out).trans hwent)
    have HF2 := Lib.hid ((HF.out).went (HW.out).1 hg1 hg2 hwent)
    have HEQ2 := Lib.hid ((HEQ.out).trans (adv_cat_some hR _))
    clear hwent hR
    have c2 := (HF2.out).ex.c2
    have c3 := (HF2.out).ex.c3
    have c4 := (HF2.out).ex.c4
    have hz0 : (strOf []).toList = [] := strOf_toList []
    obtain ⟨m, hm⟩ : ∃ m, m = (args).length := ⟨_, rfl⟩
    rw [← hm] at c4
    by_cases hn : n = 0
    case neg =>
      have HNO := Lib.hid ((HEQ2.out).trans (show adv T2 (need _ (some [])) = none from by rw [need_no (fun h => hn h.1)]; rfl))
      clear hm
      go_wp2_with fail
      refine (must_no _).mono ?_
      rintro e9 w9 ⟨rfl, rfl⟩
      unfold boom
      go_wp2
      refine ⟨rfl, ?_⟩
      rw [HNO.out]
      exact ⟨rfl, (HW2.out).2.2⟩
    by_cases hs0 : s = []
    case neg =>
      have HNO := Lib.hid ((HEQ2.out).trans (show adv T2 (need _ (some [])) = none from by rw [need_no (fun h => hs0 h.2.1)]; rfl))
      subst hn
      have hs1 : ¬ (strOf s).toList = [] := by rw [strOf_toList]; exact hs0
      clear hm
      clear hs0
      go_wp2_with fail
      refine (must_no _).mono ?_
      rintro e9 w9 ⟨rfl, rfl⟩
      unfold boom
      go_wp2
      refine ⟨rfl, ?_⟩
      rw [HNO.out]
      exact ⟨rfl, (HW2.out).2.2⟩
    by_cases hl0 : (args).length = 0
    case neg =>
      have HNO := Lib.hid ((HEQ2.out).trans (show adv T2 (need _ (some [])) = none from by rw [need_no (fun h => hl0 h.2.2)]; rfl))
      subst hn
      subst hs0
      have hl1 : ((m : Int) == 0) = false := by rw [beq_eq_false_iff_ne]; omega
      clear hm
      clear hl0
      go_wp2_with fail
      refine (must_no _).mono ?_
      rintro e9 w9 ⟨rfl, rfl⟩
      unfold boom
      go_wp2
      refine ⟨rfl, ?_⟩
      rw [HNO.out]
      exact ⟨rfl, (HW2.out).2.2⟩
    have HFIN := Lib.hid ((HEQ2.out).trans (show adv T2 (need _ (some [])) = some T2 from by rw [need_yes ⟨hn, hs0, hl0⟩]; exact adv_nil (HW2.out).1.fit))
    subst hn
    subst hs0
    obtain rfl : m = 0 := by omega
    clear hm hl0
    go_wp2_with fail
    refine (must_yes _).mono ?_
    rintro e9 w9 ⟨rfl, rfl⟩
    go_wp2
    go_end0
    rw [HFIN.out]
    exact ⟨rfl, _, HW2.out⟩

set_option maxRecDepth 100000 in
set_option maxHeartbeats 2000000 in
theorem expr_6 {w0 w : World} {Bc Ba B : Nat} {u : Value} {T : List (List UInt8)} {p n : Int} {s : List UInt8} {r : Value} {args : List Ex} {d ch : Int} (hb : Below B w0 w) (hB : B ≤ w.heap.size) (hp : PenAt w Bc Ba B u T) (hd0 : 0 ≤ d) (hd : d ≤ 24) (hc0 : 0 ≤ ch) (hr : Reads w0 B args r) (hs : s.length ≤ 40000) :
    Calls Tryd.prog 28 #[penV Bc Ba, .agg #[.int .i64 6, .int .i64 p, .int .i64 n, .string (strOf s), r], .int .i64 d, .int .i64 ch] w (PenPost w Bc Ba B u (adv T (penE (.mk 6 p n s args) d ch))) := by
  have hmf : ∀ (fn : Fn) (first cap : Array Value) (w : World), (Instr.makeFunc fn first cap).run Tryd.prog w = .ok (.func fn first cap) w := fun _ _ _ _ => rfl
  obtain ⟨A, c, hrv, _, _, _⟩ := id hr
  subst hrv
  obtain ⟨X, hX⟩ : ∃ X : World, X = (((w.alloc (.cells #[penV Bc Ba] 63)).alloc (.cells #[.int .i64 6, .int .i64 p, .int .i64 n, .string (strOf s), .slice A args.length c] 24)).alloc (.cells #[.int .i64 d] 3)).alloc (.cells #[.int .i64 ch] 3) := ⟨_, rfl⟩
  obtain ⟨g, hg⟩ : ∃ g, g = w.heap.size := ⟨_, rfl⟩
  obtain ⟨hf, hsz⟩ := fr_new hX hg
  have hw : Went w Bc Ba B u X u T := by rw [hX]; exact ((((Went.refl hp).alloc _).alloc _).alloc _).alloc _
  have e0 := hf.ex.c0
  have hg1 : Bc < g := by rw [hg]; exact lt_of_heap hp.cnt
  have hg2 : Ba < g := by rw [hg]; exact lt_of_heap hp.buf
  have hBg : B ≤ g := by rw [hg]; exact hB
  have hwg : w.heap.size ≤ g := by rw [hg]; exact Nat.le_refl _
  have hd50 : d ≤ 50 := by omega
  have HEQ := Lib.hid (congrArg (adv T) (penE_6 p n s args d ch hd))
  have HX := Lib.hid hX
  have HG := Lib.hid hg
  have HF := Lib.hid hf
  have HW := Lib.hid hw
  have HR := Lib.hid hr
  clear hX hg hf hw hsz hr
  unfold penV at HX ⊢
  go_enter Tryd.func28, Tryd.ntmps28
  go_wp2_with fail
  rw [← HX.out, ← HG.out]
  refine (must_yes _).mono ?_
  rintro e1 w1 ⟨rfl, rfl⟩
  have pc1 := (HF.out).pc
  go_wp2_with fail
  refine (obj_new (hb.trans ((HW.out).2.2.below hB (fun x hx => (hp.mine hx).1))) hBg hg1 hg2 (HW.out).1 (HF.out) (HR.out) hd0 hd50 hc0 [[91]] (by intro t ht; simp at ht; have := hs; first | (rcases ht with rfl | rfl | rfl <;> first | decide | exact hs | simp) | (rw [ht]; first | decide | exact hs) | (rw [ht]; simp)) (by simp)).mono ?_
  rintro e2 w2 hpost
  cases hR : adv T (objC args d ch [[91]]) with
  | none =>
    rw [hR] at hpost
    obtain ⟨rfl, hch⟩ := hpost
    have HNO := Lib.hid ((HEQ.out).trans (adv_cat_none hR _))
    have HCH := Lib.hid ((HW.out).fell_fr hwg hch)
    clear hR hch
    unfold boom
    go_wp2
    refine ⟨rfl, ?_⟩
    rw [HNO.out]
    exact ⟨rfl, HCH.out⟩
  | some T2 =>
    rw [hR] at hpost
    obtain ⟨rfl, u2, V2, hpA, hown, hch, hfr, hrd⟩ := hpost
    obtain ⟨A2, c2, hV, _, _, _⟩ := id hrd
    subst hV
    have HW2 := Lib.hid ((HW.out).fr hwg hpA hown hch)
    have HF2 := Lib.hid hfr
    have HR2 := Lib.hid hrd
    have HEQ2 := Lib.hid ((HEQ.out).trans (adv_cat_some hR _))
    clear hpA hown hch hfr hrd hR
    have pc3 := (HF2.out).pc
    go_wp2_with fail
    refine (arg_new (hb.trans ((HW2.out).2.2.below hB (fun x hx => (hp.mine hx).1))) hBg hg1 hg2 (HW2.out).1 (HF2.out) (HR2.out) hd0 hd50 [[93]] (by intro t ht; simp at ht; have := hs; first | (rcases ht with rfl | rfl | rfl <;> first | decide | exact hs | simp) | (rw [ht]; first | decide | exact hs) | (rw [ht]; simp)) (by simp)).mono ?_
    rintro e4 w4 hpost
    cases hR : adv T2 (argC args.tail d [[93]]) with
    | none =>
      rw [hR] at hpost
      obtain ⟨rfl, hch⟩ := hpost
      have HNO := Lib.hid ((HEQ2.out).trans (adv_cat_none hR _))
      have HCH := Lib.hid ((HW2.out).fell_fr hwg hch)
      clear hR hch
      unfold boom
      go_wp2
      refine ⟨rfl, ?_⟩
      rw [HNO.out]
      exact ⟨rfl, HCH.out⟩
    | some T4 =>
      rw [hR] at hpost
      obtain ⟨rfl, u4, V4, hpA, hown, hch, hfr, hrd⟩ := hpost
      obtain ⟨A4, c4, hV, _, _, _⟩ := id hrd
      subst hV
      have HW4 := Lib.hid ((HW2.out).fr hwg hpA hown hch)
      have HF4 := Lib.hid hfr
      have HR4 := Lib.hid hrd
      have HEQ4 := Lib.hid ((HEQ2.out).trans (adv_cat_some hR _))
      clear hpA hown hch hfr hrd hR
      have c2 := (HF4.out).ex.c2
      have c3 := (HF4.out).ex.c3
      have c4 := (HF4.out).ex.c4
      have hz0 : (strOf []).toList = [] := strOf_toList []
      obtain ⟨m, hm⟩ : ∃ m, m = (args.tail.tail).length := ⟨_, rfl⟩
      rw [← hm] at c4
      by_cases hn : n = 0
      case neg =>
        have HNO := Lib.hid ((HEQ4.out).trans (show adv T4 (need _ (some [])) = none from by rw [need_no (fun h => hn h.1)]; rfl))
        clear hm
        go_wp2_with fail
        refine (must_no _).mono ?_
        rintro e9 w9 ⟨rfl, rfl⟩
        unfold boom
        go_wp2
        refine ⟨rfl, ?_⟩
        rw [HNO.out]
        exact ⟨rfl, (HW4.out).2.2⟩
      by_cases hs0 : s = []
      case neg =>
        have HNO := Lib.hid ((HEQ4.out).trans (show adv T4 (need _ (some [])) = none from by rw [need_no (fun h => hs0 h.2.1)]; rfl))
        subst hn
        have hs1 : ¬ (strOf s).toList = [] := by rw [strOf_toList]; exact hs0
        clear hm
        clear hs0
        go_wp2_with fail
        refine (must_no _).mono ?_
        rintro e9 w9 ⟨rfl, rfl⟩
        unfold boom
        go_wp2
        refine ⟨rfl, ?_⟩
        rw [HNO.out]
        exact ⟨rfl, (HW4.out).2.2⟩
      by_cases hl0 : (args.tail.tail).length = 0
      case neg =>
        have HNO := Lib.hid ((HEQ4.out).trans (show adv T4 (need _ (some [])) = none from by rw [need_no (fun h => hl0 h.2.2)]; rfl))
        subst hn
        subst hs0
        have hl1 : ((m : Int) == 0) = false := by rw [beq_eq_false_iff_ne]; omega
        clear hm
        clear hl0
        go_wp2_with fail
        refine (must_no _).mono ?_
        rintro e9 w9 ⟨rfl, rfl⟩
        unfold boom
        go_wp2
        refine ⟨rfl, ?_⟩
        rw [HNO.out]
        exact ⟨rfl, (HW4.out).2.2⟩
      have HFIN := Lib.hid ((HEQ4.out).trans (show adv T4 (need _ (some [])) = some T4 from by rw [need_yes ⟨hn, hs0, hl0⟩]; exact adv_nil (HW4.out).1.fit))
      subst hn
      subst hs0
      obtain rfl : m = 0 := by omega
      clear hm hl0
      go_wp2_with fail
      refine (must_yes _).mono ?_
      rintro e9 w9 ⟨rfl, rfl⟩
      go_wp2
      go_end0
      rw [HFIN.out]
      exact ⟨rfl, _, HW4.out⟩

end Go.Proofs.YtmbkjabjcphkbaaDoor
end
section
/- The walks of an expression, kind by kind. -/
set_option linter.unusedVariables false
namespace Go.Proofs.YtmbkjabjcphkbaaDoor
open Go.RowKit

set_option maxRecDepth 100000 in
set_option maxHeartbeats 2000000 in
theorem expr_7 {w0 w : World} {Bc Ba B : Nat} {u : Value} {T : List (List UInt8)} {p n : Int} {s : List UInt8} {r : Value} {args : List Ex} {d ch : Int} (hb : Below B w0 w) (hB : B ≤ w.heap.size) (hp : PenAt w Bc Ba B u T) (hd0 : 0 ≤ d) (hd : d ≤ 24) (hc0 : 0 ≤ ch) (hr : Reads w0 B args r) (hs : s.length ≤ 40000) :
    Calls Tryd.prog 28 #[penV Bc Ba, .agg #[.int .i64 7, .int .i64 p, .int .i64 n, .string (strOf s), r], .int .i64 d, .int .i64 ch] w (PenPost w Bc Ba B u (adv T (penE (.mk 7 p n s args) d ch))) := by
  have hmf : ∀ (fn : Fn) (first cap : Array Value) (w : World), (Instr.makeFunc fn first cap).run Tryd.prog w = .ok (.func fn first cap) w := fun _ _ _ _ => rfl
  obtain ⟨A, c, hrv, _, _, _⟩ := id hr
  subst hrv
  obtain ⟨X, hX⟩ : ∃ X : World, X = (((w.alloc (.cells #[penV Bc Ba] 63)).alloc (.cells #[.int .i64 7, .int .i64 p, .int .i64 n, .string (strOf s), .slice A args.length c] 24)).alloc (.cells #[.int .i64 d] 3)).alloc (.cells #[.int .i64 ch] 3) := ⟨_, rfl⟩
  obtain ⟨g, hg⟩ : ∃ g, g = w.heap.size := ⟨_, rfl⟩
  obtain ⟨hf, hsz⟩ := fr_new hX hg
  have hw : Went w Bc Ba B u X u T := by rw [hX]; exact ((((Went.refl hp).alloc _).alloc _).alloc _).alloc _
  have e0 := hf.ex.c0
  have hg1 : Bc < g := by rw [hg]; exact lt_of_heap hp.cnt
  have hg2 : Ba < g := by rw [hg]; exact lt_of_heap hp.buf
  have hBg : B ≤ g := by rw [hg]; exact hB
  have hwg : w.heap.size ≤ g := by rw [hg]; exact Nat.le_refl _
  have hd50 : d ≤ 50 := by omega
  have HEQ := Lib.hid (congrArg (adv T) (penE_7 p n s args d ch hd))
  have HX := Lib.hid hX
  have HG := Lib.hid hg
  have HF := Lib.hid hf
  have HW := Lib.hid hw
  have HR := Lib.hid hr
  clear hX hg hf hw hsz hr
  unfold penV at HX ⊢
  go_enter Tryd.func28, Tryd.ntmps28
  go_wp2_with fail
  rw [← HX.out, ← HG.out]
  refine (must_yes _).mono ?_
  rintro e1 w1 ⟨rfl, rfl⟩
  have pc1 := (HF.out).pc
  go_wp2_with fail
  refine (obj_new (hb.trans ((HW.out).2.2.below hB (fun x hx => (hp.mine hx).1))) hBg hg1 hg2 (HW.out).1 (HF.out) (HR.out) hd0 hd50 hc0 [[91]] (by intro t ht; simp at ht; have := hs; first | (rcases ht with rfl | rfl | rfl <;> first | decide | exact hs | simp) | (rw [ht]; first | decide | exact hs) | (rw [ht]; simp)) (by simp)).mono ?_
  rintro e2 w2 hpost
  cases hR : adv T (objC args d ch [[91]]) with
  | none =>
    rw [hR] at hpost
    obtain ⟨rfl, hch⟩ := hpost
    have HNO := Lib.hid ((HEQ.out).trans (adv_cat_none hR _))
    have HCH := Lib.hid ((HW.out).fell_fr hwg hch)
    clear hR hch
    unfold boom
    go_wp2
    refine ⟨rfl, ?_⟩
    rw [HNO.out]
    exact ⟨rfl, HCH.out⟩
  | some T2 =>
    rw [hR] at hpost
    obtain ⟨rfl, u2, V2, hpA, hown, hch, hfr, hrd⟩ := hpost
    obtain ⟨A2, c2, hV, _, _, _⟩ := id hrd
    subst hV
    have HW2 := Lib.hid ((HW.out).fr hwg hpA hown hch)
    have HF2 := Lib.hid hfr
    have HR2 := Lib.hid hrd
    have HEQ2 := Lib.hid ((HEQ.out).trans (adv_cat_some hR _))
    clear hpA hown hch hfr hrd hR
    have pc3 := (HF2.out).pc
    go_wp2_with fail
    refine (arg_new (hb.trans ((HW2.out).2.2.below hB (fun x hx => (hp.mine hx).1))) hBg hg1 hg2 (HW2.out).1 (HF2.out) (HR2.out) hd0 hd50 [[58]] (by intro t ht; simp at ht; have := hs; first | (rcases ht with rfl | rfl | rfl <;> first | decide | exact hs | simp) | (rw [ht]; first | decide | exact hs) | (rw [ht]; simp)) (by simp)).mono ?_
    rintro e4 w4 hpost
    cases hR : adv T2 (argC args.tail d [[58]]) with
    | none =>
      rw [hR] at hpost
      obtain ⟨rfl, hch⟩ := hpost
      have HNO := Lib.hid ((HEQ2.out).trans (adv_cat_none hR _))
      have HCH := Lib.hid ((HW2.out).fell_fr hwg hch)
      clear hR hch
      unfold boom
      go_wp2
      refine ⟨rfl, ?_⟩
      rw [HNO.out]
      exact ⟨rfl, HCH.out⟩
    | some T4 =>
      rw [hR] at hpost
      obtain ⟨rfl, u4, V4, hpA, hown, hch, hfr, hrd⟩ := hpost
      obtain ⟨A4, c4, hV, _, _, _⟩ := id hrd
      subst hV
      have HW4 := Lib.hid ((HW2.out).fr hwg hpA hown hch)
      have HF4 := Lib.hid hfr
      have HR4 := Lib.hid hrd
      have HEQ4 := Lib.hid ((HEQ2.out).trans (adv_cat_some hR _))
      clear hpA hown hch hfr hrd hR
      have pc5 := (HF4.out).pc
      go_wp2_with fail
      refine (arg_new (hb.trans ((HW4.out).2.2.below hB (fun x hx => (hp.mine hx).1))) hBg hg1 hg2 (HW4.out).1 (HF4.out) (HR4.out) hd0 hd50 [[93]] (by intro t ht; simp at ht; have := hs; first | (rcases ht with rfl | rfl | rfl <;> first | decide | exact hs | simp) | (rw [ht]; first | decide | exact hs) | (rw [ht]; simp)) (by simp)).mono ?_
      rintro e6 w6 hpost
      cases hR : adv T4 (argC args.tail.tail d [[93]]) with
      | none =>
        rw [hR] at hpost
        obtain ⟨rfl, hch⟩ := hpost
        have HNO := Lib.hid ((HEQ4.out).trans (adv_cat_none hR _))
        have HCH := Lib.hid ((HW4.out).fell_fr hwg hch)
        clear hR hch
        unfold boom
        go_wp2
        refine ⟨rfl, ?_⟩
        rw [HNO.out]
        exact ⟨rfl, HCH.out⟩
      | some T6 =>
        rw [hR] at hpost
        obtain ⟨rfl, u6, V6, hpA, hown, hch, hfr, hrd⟩ := hpost
        obtain ⟨A6, c6, hV, _, _, _⟩ := id hrd
        subst hV
        have HW6 := Lib.hid ((HW4.out).fr hwg hpA hown hch)
        have HF6 := Lib.hid hfr
        have HR6 := Lib.hid hrd
        have HEQ6 := Lib.hid ((HEQ4.out).trans (adv_cat_some hR _))
        clear hpA hown hch hfr hrd hR
        have c2 := (HF6.out).ex.c2
        have c3 := (HF6.out).ex.c3
        have c4 := (HF6.out).ex.c4
        have hz0 : (strOf []).toList = [] := strOf_toList []
        obtain ⟨m, hm⟩ : ∃ m, m = (args.tail.tail.tail).length := ⟨_, rfl⟩
        rw [← hm] at c4
        by_cases hn : n = 0
        case neg =>
          have HNO := Lib.hid ((HEQ6.out).trans (show adv T6 (need _ (some [])) = none from by rw [need_no (fun h => hn h.1)]; rfl))
          clear hm
          go_wp2_with fail
          refine (must_no _).mono ?_
          rintro e9 w9 ⟨rfl, rfl⟩
          unfold boom
          go_wp2
          refine ⟨rfl, ?_⟩
          rw [HNO.out]
          exact ⟨rfl, (HW6.out).2.2⟩
        by_cases hs0 : s = []
        case neg =>
          have HNO := Lib.hid ((HEQ6.out).trans (show adv T6 (need _ (some [])) = none from by rw [need_no (fun h => hs0 h.2.1)]; rfl))
          subst hn
          have hs1 : ¬ (strOf s).toList = [] := by rw [strOf_toList]; exact hs0
          clear hm
          clear hs0
          go_wp2_with fail
          refine (must_no _).mono ?_
          rintro e9 w9 ⟨rfl, rfl⟩
          unfold boom
          go_wp2
          refine ⟨rfl, ?_⟩
          rw [HNO.out]
          exact ⟨rfl, (HW6.out).2.2⟩
        by_cases hl0 : (args.tail.tail.tail).length = 0
        case neg =>
          have HNO := Lib.hid ((HEQ6.out).trans (show adv T6 (need _ (some [])) = none from by rw [need_no (fun h => hl0 h.2.2)]; rfl))
          subst hn
          subst hs0
          have hl1 : ((m : Int) == 0) = false := by rw [beq_eq_false_iff_ne]; omega
          clear hm
          clear hl0
          go_wp2_with fail
          refine (must_no _).mono ?_
          rintro e9 w9 ⟨rfl, rfl⟩
          unfold boom
          go_wp2
          refine ⟨rfl, ?_⟩
          rw [HNO.out]
          exact ⟨rfl, (HW6.out).2.2⟩
        have HFIN := Lib.hid ((HEQ6.out).trans (show adv T6 (need _ (some [])) = some T6 from by rw [need_yes ⟨hn, hs0, hl0⟩]; exact adv_nil (HW6.out).1.fit))
        subst hn
        subst hs0
        obtain rfl : m = 0 := by omega
        clear hm hl0
        go_wp2_with fail
        refine (must_yes _).mono ?_
        rintro e9 w9 ⟨rfl, rfl⟩
        go_wp2
        go_end0
        rw [HFIN.out]
        exact ⟨rfl, _, HW6.out⟩

set_option maxRecDepth 100000 in
set_option maxHeartbeats 2000000 in
theorem expr_8 {w0 w : World} {Bc Ba B : Nat} {u : Value} {T : List (List UInt8)} {p n : Int} {s : List UInt8} {r : Value} {args : List Ex} {d ch : Int} (hb : Below B w0 w) (hB : B ≤ w.heap.size) (hp : PenAt w Bc Ba B u T) (hd0 : 0 ≤ d) (hd : d ≤ 24) (hc0 : 0 ≤ ch) (hr : Reads w0 B args r) (hs : s.length ≤ 40000) :
    Calls Tryd.prog 28 #[penV Bc Ba, .agg #[.int .i64 8, .int .i64 p, .int .i64 n, .string (strOf s), r], .int .i64 d, .int .i64 ch] w (PenPost w Bc Ba B u (adv T (penE (.mk 8 p n s args) d ch))) := by
  have hmf : ∀ (fn : Fn) (first cap : Array Value) (w : World), (Instr.makeFunc fn first cap).run Tryd.prog w = .ok (.func fn first cap) w := fun _ _ _ _ => rfl
  obtain ⟨A, c, hrv, _, _, _⟩ := id hr
  subst hrv
  obtain ⟨X, hX⟩ : ∃ X : World, X = (((w.alloc (.cells #[penV Bc Ba] 63)).alloc (.cells #[.int .i64 8, .int .i64 p, .int .i64 n, .string (strOf s), .slice A args.length c] 24)).alloc (.cells #[.int .i64 d] 3)).alloc (.cells #[.int .i64 ch] 3) := ⟨_, rfl⟩
  obtain ⟨g, hg⟩ : ∃ g, g = w.heap.size := ⟨_, rfl⟩
  obtain ⟨hf, hsz⟩ := fr_new hX hg
  have hw : Went w Bc Ba B u X u T := by rw [hX]; exact ((((Went.refl hp).alloc _).alloc _).alloc _).alloc _
  have e0 := hf.ex.c0
  have hg1 : Bc < g := by rw [hg]; exact lt_of_heap hp.cnt
  have hg2 : Ba < g := by rw [hg]; exact lt_of_heap hp.buf
  have hBg : B ≤ g := by rw [hg]; exact hB
  have hwg : w.heap.size ≤ g := by rw [hg]; exact Nat.le_refl _
  have hd50 : d ≤ 50 := by omega
  have HEQ := Lib.hid (congrArg (adv T) (penE_8 p n s args d ch hd))
  have HX := Lib.hid hX
  have HG := Lib.hid hg
  have HF := Lib.hid hf
  have HW := Lib.hid hw
  have HR := Lib.hid hr
  clear hX hg hf hw hsz hr
  unfold penV at HX ⊢
  go_enter Tryd.func28, Tryd.ntmps28
  go_wp2_with fail
  rw [← HX.out, ← HG.out]
  refine (must_yes _).mono ?_
  rintro e1 w1 ⟨rfl, rfl⟩
  have pc1 := (HF.out).pc
  go_wp2_with fail
  refine (put_new (Went.refl (HW.out).1) (Nat.le_trans hB (HW.out).2.2.size) [[108, 101, 110], [40]] (by intro t ht; simp at ht; have := hs; first | (rcases ht with rfl | rfl | rfl <;> first | decide | exact hs | simp) | (rw [ht]; first | decide | exact hs) | (rw [ht]; simp)) (by simp)).mono ?_
  rintro e2 w2 hpost
  cases hR : adv T (some [[108, 101, 110], [40]]) with
  | none =>
    rw [hR] at hpost
    obtain ⟨rfl, hch⟩ := hpost
    have HNO := Lib.hid ((HEQ.out).trans (adv_cat_none hR _))
    have HCH := Lib.hid ((HW.out).fell hch)
    clear hR hch
    unfold boom
    go_wp2
    refine ⟨rfl, ?_⟩
    rw [HNO.out]
    exact ⟨rfl, HCH.out⟩
  | some T2 =>
    rw [hR] at hpost
    obtain ⟨rfl, u2, hwent⟩ := hpost
    have HW2 := Lib.hid ((HW.out).trans hwent)
    have HF2 := Lib.hid ((HF.out).went (HW.out).1 hg1 hg2 hwent)
    have HEQ2 := Lib.hid ((HEQ.out).trans (adv_cat_some hR _))
    clear hwent hR
    have pc3 := (HF2.out).pc
    go_wp2_with fail
    refine (arg_new (hb.trans ((HW2.out).2.2.below hB (fun x hx => (hp.mine hx).1))) hBg hg1 hg2 (HW2.out).1 (HF2.out) (HR.out) hd0 hd50 [[41]] (by intro t ht; simp at ht; have := hs; first | (rcases ht with rfl | rfl | rfl <;> first | decide | exact hs | simp) | (rw [ht]; first | decide | exact hs) | (rw [ht]; simp)) (by simp)).mono ?_
    rintro e4 w4 hpost
    cases hR : adv T2 (argC args d [[41]]) with
    | none =>
      rw [hR] at hpost
      obtain ⟨rfl, hch⟩ := hpost
      have HNO := Lib.hid ((HEQ2.out).trans (adv_cat_none hR _))
      have HCH := Lib.hid ((HW2.out).fell_fr hwg hch)
      clear hR hch
      unfold boom
      go_wp2
      refine ⟨rfl, ?_⟩
      rw [HNO.out]
      exact ⟨rfl, HCH.out⟩
    | some T4 =>
      rw [hR] at hpost
      obtain ⟨rfl, u4, V4, hpA, hown, hch, hfr, hrd⟩ := hpost
      obtain ⟨A4, c4, hV, _, _, _⟩ := id hrd
      subst hV
      have HW4 := Lib.hid ((HW2.out).fr hwg hpA hown hch)
      have HF4 := Lib.hid hfr
      have HR4 := Lib.hid hrd
      have HEQ4 := Lib.hid ((HEQ2.out).trans (adv_cat_some hR _))
      clear hpA hown hch hfr hrd hR
      have c2 := (HF4.out).ex.c2
      have c3 := (HF4.out).ex.c3
      have c4 := (HF4.out).ex.c4
      have hz0 : (strOf []).toList = [] := strOf_toList []
      obtain ⟨m, hm⟩ : ∃ m, m = (args.tail).length := ⟨_, rfl⟩
      rw [← hm] at c4
      by_cases hn : n = 0
      case neg =>
        have HNO := Lib.hid ((HEQ4.out).trans (show adv T4 (need _ (some [])) = none from by rw [need_no (fun h => hn h.1)]; rfl))
        clear hm
        go_wp2_with fail
        refine (must_no _).mono ?_
        rintro e9 w9 ⟨rfl, rfl⟩
        unfold boom
        go_wp2
        refine ⟨rfl, ?_⟩
        rw [HNO.out]
        exact ⟨rfl, (HW4.out).2.2⟩
      by_cases hs0 : s = []
      case neg =>
        have HNO := Lib.hid ((HEQ4.out).trans (show adv T4 (need _ (some [])) = none from by rw [need_no (fun h => hs0 h.2.1)]; rfl))
        subst hn
        have hs1 : ¬ (strOf s).toList = [] := by rw [strOf_toList]; exact hs0
        clear hm
        clear hs0
        go_wp2_with fail
        refine (must_no _).mono ?_
        rintro e9 w9 ⟨rfl, rfl⟩
        unfold boom
        go_wp2
        refine ⟨rfl, ?_⟩
        rw [HNO.out]
        exact ⟨rfl, (HW4.out).2.2⟩
      by_cases hl0 : (args.tail).length = 0
      case neg =>
        have HNO := Lib.hid ((HEQ4.out).trans (show adv T4 (need _ (some [])) = none from by rw [need_no (fun h => hl0 h.2.2)]; rfl))
        subst hn
        subst hs0
        have hl1 : ((m : Int) == 0) = false := by rw [beq_eq_false_iff_ne]; omega
        clear hm
        clear hl0
        go_wp2_with fail
        refine (must_no _).mono ?_
        rintro e9 w9 ⟨rfl, rfl⟩
        unfold boom
        go_wp2
        refine ⟨rfl, ?_⟩
        rw [HNO.out]
        exact ⟨rfl, (HW4.out).2.2⟩
      have HFIN := Lib.hid ((HEQ4.out).trans (show adv T4 (need _ (some [])) = some T4 from by rw [need_yes ⟨hn, hs0, hl0⟩]; exact adv_nil (HW4.out).1.fit))
      subst hn
      subst hs0
      obtain rfl : m = 0 := by omega
      clear hm hl0
      go_wp2_with fail
      refine (must_yes _).mono ?_
      rintro e9 w9 ⟨rfl, rfl⟩
      go_wp2
      go_end0
      rw [HFIN.out]
      exact ⟨rfl, _, HW4.out⟩

set_option maxRecDepth 100000 in
set_option maxHeartbeats 2000000 in
theorem expr_12 {w0 w : World} {Bc Ba B : Nat} {u : Value} {T : List (List UInt8)} {p n : Int} {s : List UInt8} {r : Value} {args : List Ex} {d ch : Int} (hb : Below B w0 w) (hB : B ≤ w.heap.size) (hp : PenAt w Bc Ba B u T) (hd0 : 0 ≤ d) (hd : d ≤ 24) (hc0 : 0 ≤ ch) (hr : Reads w0 B args r) (hs : s.length ≤ 40000) :
    Calls Tryd.prog 28 #[penV Bc Ba, .agg #[.int .i64 12, .int .i64 p, .int .i64 n, .string (strOf s), r], .int .i64 d, .int .i64 ch] w (PenPost w Bc Ba B u (adv T (penE (.mk 12 p n s args) d ch))) := by
  have hmf : ∀ (fn : Fn) (first cap : Array Value) (w : World), (Instr.makeFunc fn first cap).run Tryd.prog w = .ok (.func fn first cap) w := fun _ _ _ _ => rfl
  obtain ⟨A, c, hrv, _, _, _⟩ := id hr
  subst hrv
  obtain ⟨X, hX⟩ : ∃ X : World, X = (((w.alloc (.cells #[penV Bc Ba] 63)).alloc (.cells #[.int .i64 12, .int .i64 p, .int .i64 n, .string (strOf s), .slice A args.length c] 24)).alloc (.cells #[.int .i64 d] 3)).alloc (.cells #[.int .i64 ch] 3) := ⟨_, rfl⟩
  obtain ⟨g, hg⟩ : ∃ g, g = w.heap.size := ⟨_, rfl⟩
  obtain ⟨hf, hsz⟩ := fr_new hX hg
  have hw : Went w Bc Ba B u X u T := by rw [hX]; exact ((((Went.refl hp).alloc _).alloc _).alloc _).alloc _
  have e0 := hf.ex.c0
  have hg1 : Bc < g := by rw [hg]; exact lt_of_heap hp.cnt
  have hg2 : Ba < g := by rw [hg]; exact lt_of_heap hp.buf
  have hBg : B ≤ g := by rw [hg]; exact hB
  have hwg : w.heap.size ≤ g := by rw [hg]; exact Nat.le_refl _
  have hd50 : d ≤ 50 := by omega
  have HEQ := Lib.hid (congrArg (adv T) (penE_12 p n s args d ch hd))
  have HX := Lib.hid hX
  have HG := Lib.hid hg
  have HF := Lib.hid hf
  have HW := Lib.hid hw
  have HR := Lib.hid hr
  clear hX hg hf hw hsz hr
  unfold penV at HX ⊢
  go_enter Tryd.func28, Tryd.ntmps28
  go_wp2_with fail
  rw [← HX.out, ← HG.out]
  refine (must_yes _).mono ?_
  rintro e1 w1 ⟨rfl, rfl⟩
  have pc1 := (HF.out).pc
  go_wp2_with fail
  refine (put_new (Went.refl (HW.out).1) (Nat.le_trans hB (HW.out).2.2.size) [[109, 97, 107, 101], [40]] (by intro t ht; simp at ht; have := hs; first | (rcases ht with rfl | rfl | rfl <;> first | decide | exact hs | simp) | (rw [ht]; first | decide | exact hs) | (rw [ht]; simp)) (by simp)).mono ?_
  rintro e2 w2 hpost
  cases hR : adv T (some [[109, 97, 107, 101], [40]]) with
  | none =>
    rw [hR] at hpost
    obtain ⟨rfl, hch⟩ := hpost
    have HNO := Lib.hid ((HEQ.out).trans (adv_cat_none hR _))
    have HCH := Lib.hid ((HW.out).fell hch)
    clear hR hch
    unfold boom
    go_wp2
    refine ⟨rfl, ?_⟩
    rw [HNO.out]
    exact ⟨rfl, HCH.out⟩
  | some T2 =>
    rw [hR] at hpost
    obtain ⟨rfl, u2, hwent⟩ := hpost
    have HW2 := Lib.hid ((HW.out).trans hwent)
    have HF2 := Lib.hid ((HF.out).went (HW.out).1 hg1 hg2 hwent)
    have HEQ2 := Lib.hid ((HEQ.out).trans (adv_cat_some hR _))
    clear hwent hR
    have pc3 := (HF2.out).pc
    go_wp2_with fail
    refine (arg_new (hb.trans ((HW2.out).2.2.below hB (fun x hx => (hp.mine hx).1))) hBg hg1 hg2 (HW2.out).1 (HF2.out) (HR.out) hd0 hd50 [[41]] (by intro t ht; simp at ht; have := hs; first | (rcases ht with rfl | rfl | rfl <;> first | decide | exact hs | simp) | (rw [ht]; first | decide | exact hs) | (rw [ht]; simp)) (by simp)).mono ?_
    rintro e4 w4 hpost
    cases hR : adv T2 (argC args d [[41]]) with
    | none =>
      rw [hR] at hpost
      obtain ⟨rfl, hch⟩ := hpost
      have HNO := Lib.hid ((HEQ2.out).trans (adv_cat_none hR _))
      have HCH := Lib.hid ((HW2.out).fell_fr hwg hch)
      clear hR hch
      unfold boom
      go_wp2
      refine ⟨rfl, ?_⟩
      rw [HNO.out]
      exact ⟨rfl, HCH.out⟩
    | some T4 =>
      rw [hR] at hpost
      obtain ⟨rfl, u4, V4, hpA, hown, hch, hfr, hrd⟩ := hpost
      obtain ⟨A4, c4, hV, _, _, _⟩ := id hrd
      subst hV
      have HW4 := Lib.hid ((HW2.out).fr hwg hpA hown hch)
      have HF4 := Lib.hid hfr
      have HR4 := Lib.hid hrd
      have HEQ4 := Lib.hid ((HEQ2.out).trans (adv_cat_some hR _))
      clear hpA hown hch hfr hrd hR
      have c2 := (HF4.out).ex.c2
      have c3 := (HF4.out).ex.c3
      have c4 := (HF4.out).ex.c4
      have hz0 : (strOf []).toList = [] := strOf_toList []
      obtain ⟨m, hm⟩ : ∃ m, m = (args.tail).length := ⟨_, rfl⟩
      rw [← hm] at c4
      by_cases hn : n = 0
      case neg =>
        have HNO := Lib.hid ((HEQ4.out).trans (show adv T4 (need _ (some [])) = none from by rw [need_no (fun h => hn h.1)]; rfl))
        clear hm
        go_wp2_with fail
        refine (must_no _).mono ?_
        rintro e9 w9 ⟨rfl, rfl⟩
        unfold boom
        go_wp2
        refine ⟨rfl, ?_⟩
        rw [HNO.out]
        exact ⟨rfl, (HW4.out).2.2⟩
      by_cases hs0 : s = []
      case neg =>
        have HNO := Lib.hid ((HEQ4.out).trans (show adv T4 (need _ (some [])) = none from by rw [need_no (fun h => hs0 h.2.1)]; rfl))
        subst hn
        have hs1 : ¬ (strOf s).toList = [] := by rw [strOf_toList]; exact hs0
        clear hm
        clear hs0
        go_wp2_with fail
        refine (must_no _).mono ?_
        rintro e9 w9 ⟨rfl, rfl⟩
        unfold boom
        go_wp2
        refine ⟨rfl, ?_⟩
        rw [HNO.out]
        exact ⟨rfl, (HW4.out).2.2⟩
      by_cases hl0 : (args.tail).length = 0
      case neg =>
        have HNO := Lib.hid ((HEQ4.out).trans (show adv T4 (need _ (some [])) = none from by rw [need_no (fun h => hl0 h.2.2)]; rfl))
        subst hn
        subst hs0
        have hl1 : ((m : Int) == 0) = false := by rw [beq_eq_false_iff_ne]; omega
        clear hm
        clear hl0
        go_wp2_with fail
        refine (must_no _).mono ?_
        rintro e9 w9 ⟨rfl, rfl⟩
        unfold boom
        go_wp2
        refine ⟨rfl, ?_⟩
        rw [HNO.out]
        exact ⟨rfl, (HW4.out).2.2⟩
      have HFIN := Lib.hid ((HEQ4.out).trans (show adv T4 (need _ (some [])) = some T4 from by rw [need_yes ⟨hn, hs0, hl0⟩]; exact adv_nil (HW4.out).1.fit))
      subst hn
      subst hs0
      obtain rfl : m = 0 := by omega
      clear hm hl0
      go_wp2_with fail
      refine (must_yes _).mono ?_
      rintro e9 w9 ⟨rfl, rfl⟩
      go_wp2
      go_end0
      rw [HFIN.out]
      exact ⟨rfl, _, HW4.out⟩

end Go.Proofs.YtmbkjabjcphkbaaDoor
end
