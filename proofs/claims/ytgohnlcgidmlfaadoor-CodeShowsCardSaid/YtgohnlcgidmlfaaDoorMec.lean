/- Package code: sizes, words, and what is no more than may be. -/
import Derived.Test.YtgohnlcgidmlfaaDoorMeb
set_option linter.unusedVariables false
set_option linter.unusedSimpArgs false
namespace Go.Proofs.YtgohnlcgidmlfaaDoor
open Go.RowKit

theorem IsMo.grow {w w' : World} {m : Mo} {v : Vm} (h : IsMo w (· < w.heap.size) m v) (hb : Below w.heap.size w w') : IsMo w' (· < w'.heap.size) m v :=
  h.keep (fun b hlt => hb.block b hlt) (fun b hlt => Nat.lt_of_lt_of_le hlt hb.size)
def szB (xs : List Sz) (most lo hi : Int) : Bool := decide ((xs.length : Int) ≤ most) && xs.all fun s => rg lo hi s.size

set_option maxRecDepth 100000 in
theorem sizes1_any {w : World} {g0 g1 : Nat} {lo hi : Int} (h0 : w.cell? ⟨g0, 0, none⟩ = some (.int .i64 lo)) (h1 : w.cell? ⟨g1, 0, none⟩ = some (.int .i64 hi)) (n : ByteArray) (s : Int) (hs : In64 s) :
    Calls Tryd.prog 53 #[.agg #[.string n, .int .i64 s], .pointer (some ⟨g0, 0, none⟩), .pointer (some ⟨g1, 0, none⟩)] w fun e w' => e = .returned (.bool (!rg lo hi s)) ∧ Below w.heap.size w w' := by
  have l0 := (cell_in h0).1
  have l1 := (cell_in h1).1
  dsimp only at l0 l1
  obtain ⟨X, hX⟩ : ∃ X : World, X = w.alloc (.cells #[.string n, .int .i64 s] 46) := ⟨_, rfl⟩
  have hb : Below w.heap.size w X := by rw [hX]; exact (Below.refl _ w).alloc (Nat.le_refl _) _
  have HC := Lib.hid (wi_one (w := X) lo hi s hs)
  have HX := Lib.hid hX
  have HB := Lib.hid hb
  rw [hX, asz] at HC
  clear hX hb
  go_enter Tryd.func53, Tryd.ntmps53
  go_wp2_with fail
  refine HC.out.mono ?_
  rintro e w2 ⟨rfl, hb2⟩
  have HB2 : Hid (Below w.heap.size w w2) := Lib.hid (by
    have h1 := HB.out
    rw [HX.out] at h1
    exact h1.trans (hb2.mono (by omega)))
  clear hb2
  go_wp2
  go_ret
  exact ⟨rfl, HB2.out⟩

set_option maxHeartbeats 1000000 in
set_option maxRecDepth 100000 in
theorem sizes_any {w : World} {S : Nat → Prop} {xs : List Sz} {v : Value} (h : Lies KS w S xs v) (hS : ∀ b, S b → b < w.heap.size) (most lo hi : Int) :
    Calls Tryd.prog 42 #[v, .int .i64 most, .int .i64 lo, .int .i64 hi] w (AnyPost w (szB xs most lo hi)) := by
  obtain ⟨X, hX⟩ : ∃ X : World, X = (w.alloc (.cells #[.int .i64 lo] 3)).alloc (.cells #[.int .i64 hi] 3) := ⟨_, rfl⟩
  have hb : Below w.heap.size w X := by rw [hX]; exact ((Below.refl _ w).alloc (Nat.le_refl _) _).alloc (by simp) _
  have hs : X.heap.size = w.heap.size + 2 := by rw [hX]; simp
  have h0 : X.cell? ⟨w.heap.size, 0, none⟩ = some (.int .i64 lo) := by
    rw [cell_of_row X _ 0 #[.int .i64 lo] 3 (0, 0) (by rw [hX]; exact (Below.heap_alloc _ _ _ (by simp)).trans (heap_alloc_new w _))]; rfl
  have h1 : X.cell? ⟨w.heap.size + 1, 0, none⟩ = some (.int .i64 hi) := by
    rw [cell_of_row X _ 0 #[.int .i64 hi] 3 (0, 0) (by
      have := heap_alloc_new (w.alloc (.cells #[.int .i64 lo] 3)) (.cells #[.int .i64 hi] 3)
      rw [asz] at this
      rw [hX]; exact this)]; rfl
  have hp : Pred X 53 #[.pointer (some ⟨w.heap.size, 0, none⟩), .pointer (some ⟨w.heap.size + 1, 0, none⟩)] xs.length (ArgS X S xs) (fun k => !rg lo hi ((xs[k]?.map (·.size)).getD 0)) :=
    { ent := fun _ _ => rfl
      call := fun k hk x hx wx hbx => by
        obtain ⟨hk', rfl, hin⟩ := hx
        rw [List.getElem?_eq_getElem hk']
        exact sizes1_any ((hbx.cell (p := ⟨w.heap.size, 0, none⟩) (by show w.heap.size < X.heap.size; omega)).trans h0) ((hbx.cell (p := ⟨w.heap.size + 1, 0, none⟩) (by show w.heap.size + 1 < X.heap.size; omega)).trans h1) _ _ hin }
  have hc := containsS_any (h.keep (w' := X) (fun b hq => hb.block b (hS b hq)) (fun _ h => h)) (fun b hq => by have := hS b hq; omega) hp
  rw [any_range xs (fun x => !rg lo hi x.size) _ (fun k hk => by rw [List.getElem?_eq_getElem hk]; rfl)] at hc
  have HE : Hid ((xs.all fun s => rg lo hi s.size) = !(xs.any fun x => !rg lo hi x.size)) := Lib.hid (by rw [List.not_any_eq_all_not]; simp)
  obtain ⟨q, hq⟩ : ∃ q, q = xs.any fun x => !rg lo hi x.size := ⟨_, rfl⟩
  rw [← hq] at hc HE
  obtain ⟨A, c, rfl, -, hl⟩ := h.form
  obtain ⟨n, hn⟩ : ∃ n, n = xs.length := ⟨_, rfl⟩
  have HN : Hid (szB xs most lo hi = (decide ((n : Int) ≤ most) && !q)) := Lib.hid (by unfold szB; rw [HE.out, hn])
  rw [← hn] at hl hc ⊢
  have HX := Lib.hid hX
  have HB := Lib.hid hb
  have HC := Lib.hid hc
  clear h hS hX hb hs h0 h1 hp hc hq hn HE
  by_cases hle : (n : Int) ≤ most
  · have hb : szB xs most lo hi = !q := by rw [HN.out, decide_eq_true hle, Bool.true_and]
    have HE := Lib.hid hb
    clear hb
    go_enter Tryd.func42, Tryd.ntmps42
    go_wp2_with fail
    rw [← HX.out]
    refine HC.out.mono ?_
    rintro e w2 ⟨rfl, hb2⟩
    have HB2 := Lib.hid (HB.out.trans (hb2.mono HB.out.size))
    clear hb2
    go_wp2
    go_ret
    exact ⟨rbool HE.out.symm, HB2.out⟩
  · have hb : szB xs most lo hi = false := by rw [HN.out, decide_eq_false hle, Bool.false_and]
    have HE := Lib.hid hb
    clear hb
    go_enter Tryd.func42, Tryd.ntmps42
    go_wp2
    rw [← HX.out]
    go_ret
    exact ⟨rbool HE.out.symm, HB.out⟩

def partsM (m : Mo) : Bool := szB m.globals 16 1 2 && szB m.structs 4 0 16 && szB m.chans 4 1 4 && decide (m.locks.length ≤ 8) && decide (m.inputs.length ≤ 8) && decide (m.sinks.length ≤ 4) && decide (m.hatches.length ≤ 8)

theorem MoBlk.grow {w : World} {v : Vm} : MoBlk (w.alloc (.cells #[v.g, v.s, v.c, v.l, v.i, v.o, v.h, v.f, v.t] 27)) w.heap.size v := heap_alloc_new w _

set_option maxHeartbeats 4000000 in
set_option maxRecDepth 100000 in
theorem parts_any {w : World} {m : Mo} {v : Vm} (h : IsMo w (· < w.heap.size) m v) :
    Calls Tryd.prog 27 #[.agg v.arr] w (AnyPost w (partsM m)) := by
  obtain ⟨X, hX⟩ : ∃ X : World, X = w.alloc (.cells #[v.g, v.s, v.c, v.l, v.i, v.o, v.h, v.f, v.t] 27) := ⟨_, rfl⟩
  have hxb : Below w.heap.size w X := by rw [hX]; exact (Below.refl _ w).alloc (Nat.le_refl _) _
  have hx1 : MoBlk X w.heap.size v := by rw [hX]; exact MoBlk.grow
  have hxs : X.heap.size = w.heap.size + 1 := by rw [hX, asz]
  have hi : ∀ wx, Below X.heap.size X wx → IsMo wx (· < wx.heap.size) m v := fun wx hb => h.grow (hxb.trans (hb.mono (by omega)))
  have hcl : ∀ wx, Below X.heap.size X wx → MoBlk wx w.heap.size v := fun wx hb => hx1.below hb (by omega)
  obtain ⟨A3, c3, e3, -, -⟩ := h.l.form
  obtain ⟨A4, c4, e4, -, -⟩ := h.i.form
  obtain ⟨A5, c5, e5, -, -⟩ := h.o.form
  obtain ⟨A6, c6, e6, -, -⟩ := h.h.form
  obtain ⟨n3, hn3⟩ : ∃ n, n = m.locks.length := ⟨_, rfl⟩
  obtain ⟨n4, hn4⟩ : ∃ n, n = m.inputs.length := ⟨_, rfl⟩
  obtain ⟨n5, hn5⟩ : ∃ n, n = m.sinks.length := ⟨_, rfl⟩
  obtain ⟨n6, hn6⟩ : ∃ n, n = m.hatches.length := ⟨_, rfl⟩
  rw [← hn3] at e3
  rw [← hn4] at e4
  rw [← hn5] at e5
  rw [← hn6] at e6
  obtain ⟨q0, hq0⟩ : ∃ q, q = szB m.globals 16 1 2 := ⟨_, rfl⟩
  obtain ⟨q1, hq1⟩ : ∃ q, q = szB m.structs 4 0 16 := ⟨_, rfl⟩
  obtain ⟨q2, hq2⟩ : ∃ q, q = szB m.chans 4 1 4 := ⟨_, rfl⟩
  have hm : partsM m = (q0 && q1 && q2 && decide (n3 ≤ 8) && decide (n4 ≤ 8) && decide (n5 ≤ 4) && decide (n6 ≤ 8)) := by rw [hq0, hq1, hq2, hn3, hn4, hn5, hn6]; rfl
  have C0 := Lib.hid (sizes_any (hi X (Below.refl _ _)).g (fun b hb => hb) 16 1 2)
  have C1 := Lib.hid (fun wx hb => sizes_any (hi wx hb).s (fun b hb => hb) 4 0 16)
  have C2 := Lib.hid (fun wx hb => sizes_any (hi wx hb).c (fun b hb => hb) 4 1 4)
  rw [← hq0] at C0
  rw [← hq1] at C1
  rw [← hq2] at C2
  have CC : Hid (∀ wx, Below X.heap.size X wx → wx.cell? ⟨w.heap.size, 1, none⟩ = some v.s ∧ wx.cell? ⟨w.heap.size, 2, none⟩ = some v.c ∧ wx.cell? ⟨w.heap.size, 3, none⟩ = some (.slice A3 n3 c3) ∧ wx.cell? ⟨w.heap.size, 4, none⟩ = some (.slice A4 n4 c4) ∧ wx.cell? ⟨w.heap.size, 5, none⟩ = some (.slice A5 n5 c5) ∧ wx.cell? ⟨w.heap.size, 6, none⟩ = some (.slice A6 n6 c6)) := Lib.hid fun wx hb => by
    obtain ⟨p0, p1, p2, p3, p4, p5, p6, p7, p8⟩ := (hcl wx hb).all
    rw [e3] at p3
    rw [e4] at p4
    rw [e5] at p5
    rw [e6] at p6
    exact ⟨p1, p2, p3, p4, p5, p6⟩
  have HX := Lib.hid hX
  have HM := Lib.hid hm
  have HXB := Lib.hid hxb
  have HXS := Lib.hid hxs
  clear hX hxb hx1 hxs hi hcl e3 e4 e5 e6 hn3 hn4 hn5 hn6 hq0 hq1 hq2 hm h
  simp only [Vm.arr]
  go_enter Tryd.func27, Tryd.ntmps27
  go_wp2_with fail
  rw [← HX.out]
  refine C0.out.mono ?_
  rintro e w1 ⟨rfl, hb1⟩
  have HB1 := Lib.hid hb1
  have HE1 := Lib.hid (HXB.out.trans (hb1.mono (by have := HXS.out; omega)))
  obtain ⟨p1, p2, p3, p4, p5, p6⟩ := CC.out w1 hb1
  clear hb1 C0
  cases q0 with
  | false =>
    clear CC C1 C2
    go_wp2
    go_ret
    exact ⟨rbool (by rw [HM.out]; simp), HE1.out⟩
  | true =>
    go_wp2_with fail
    refine (C1.out w1 HB1.out).mono ?_
    rintro e w2 ⟨rfl, hb2⟩
    have hb2 := HB1.out.trans (hb2.mono HB1.out.size)
    have HB2 := Lib.hid hb2
    have HE2 := Lib.hid (HXB.out.trans (hb2.mono (by have := HXS.out; omega)))
    clear p1 p2 p3 p4 p5 p6
    obtain ⟨p1, p2, p3, p4, p5, p6⟩ := CC.out w2 hb2
    clear hb2 C1
    cases q1 with
    | false =>
      clear CC C2
      go_wp2
      go_ret
      exact ⟨rbool (by rw [HM.out]; simp), HE2.out⟩
    | true =>
      go_wp2_with fail
      refine (C2.out w2 HB2.out).mono ?_
      rintro e w3 ⟨rfl, hb3⟩
      have hb3 := HB2.out.trans (hb3.mono HB2.out.size)
      have HE3 := Lib.hid (HXB.out.trans (hb3.mono (by have := HXS.out; omega)))
      clear p1 p2 p3 p4 p5 p6
      obtain ⟨p1, p2, p3, p4, p5, p6⟩ := CC.out w3 hb3
      clear hb3 C2 CC
      cases q2 with
      | false =>
        go_wp2
        go_ret
        exact ⟨rbool (by rw [HM.out]; simp), HE3.out⟩
      | true =>
        by_cases h3 : n3 ≤ 8
        · by_cases h4 : n4 ≤ 8
          · by_cases h5 : n5 ≤ 4
            · have HF : Hid (partsM m = decide ((n6 : Int) ≤ 8)) := Lib.hid (by rw [HM.out, Bool.eq_iff_iff]; simp [h3, h4, h5]; omega)
              have i3 : (n3 : Int) ≤ 8 := by omega
              have i4 : (n4 : Int) ≤ 8 := by omega
              have i5 : (n5 : Int) ≤ 4 := by omega
              go_wp2
              go_ret
              exact ⟨rbool HF.out.symm, HE3.out⟩
            · have HG : Hid (partsM m = false) := Lib.hid (by rw [HM.out]; simp [h5])
              have i3 : (n3 : Int) ≤ 8 := by omega
              have i4 : (n4 : Int) ≤ 8 := by omega
              have i5 : ¬ (n5 : Int) ≤ 4 := by omega
              go_wp2
              go_ret
              exact ⟨rbool HG.out.symm, HE3.out⟩
          · have HG : Hid (partsM m = false) := Lib.hid (by rw [HM.out]; simp [h4])
            have i3 : (n3 : Int) ≤ 8 := by omega
            have i4 : ¬ (n4 : Int) ≤ 8 := by omega
            go_wp2
            go_ret
            exact ⟨rbool HG.out.symm, HE3.out⟩
        · have HG : Hid (partsM m = false) := Lib.hid (by rw [HM.out]; simp [h3])
          have i3 : ¬ (n3 : Int) ≤ 8 := by omega
          go_wp2
          go_ret
          exact ⟨rbool HG.out.symm, HE3.out⟩

end Go.Proofs.YtgohnlcgidmlfaaDoor
