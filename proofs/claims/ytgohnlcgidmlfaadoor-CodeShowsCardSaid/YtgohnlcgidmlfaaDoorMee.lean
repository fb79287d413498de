/- Package code: are the functions and threads right? -/
import Derived.Test.YtgohnlcgidmlfaaDoorMed
set_option linter.unusedVariables false
set_option linter.unusedSimpArgs false
namespace Go.Proofs.YtgohnlcgidmlfaaDoor
open Go.RowKit

def fnB (f : Fn) : Bool := rg 0 1024 f.regs && rg 0 f.regs f.params && rg 0 2 f.result && !decide (f.code.length = 0)
def stB (m : Mo) (x : Int) : Bool := rg 0 ((m.funcs.length : Int) - 1) x && decide ((m.funcs[x.toNat]?.map (·.params)).getD 0 = 0)
def funcsM (m : Mo) : Bool := rg 1 12 (m.funcs.length : Int) && decide (m.threads.length ≤ 4) && decide (sumC m.funcs ≤ 4096) && m.funcs.all fnB && m.threads.all (stB m)

set_option maxHeartbeats 1000000 in
set_option maxRecDepth 100000 in
theorem funcs1_any {w : World} {S : Nat → Prop} {f : Fn} {u : Value} (hu : Lies KO w S f.code u) (hi : f.In) :
    Calls Tryd.prog 44 #[.agg #[.string (bs f.name), .int .i64 f.params, .int .i64 f.regs, .int .i64 f.result, u]] w fun e w' => e = .returned (.bool (!fnB f)) ∧ Below w.heap.size w w' := by
  obtain ⟨A, c, rfl, -, hl⟩ := hu.form
  obtain ⟨n, hn⟩ : ∃ n, n = f.code.length := ⟨_, rfl⟩
  rw [← hn] at hl ⊢
  obtain ⟨X, hX⟩ : ∃ X : World, X = w.alloc (.cells #[.string (bs f.name), .int .i64 f.params, .int .i64 f.regs, .int .i64 f.result, .slice A n c] 39) := ⟨_, rfl⟩
  have hb : Below w.heap.size w X := by rw [hX]; exact (Below.refl _ w).alloc (Nat.le_refl _) _
  have hs : X.heap.size = w.heap.size + 1 := by rw [hX, asz]
  have h0 : FnBlk X w.heap.size f (.slice A n c) := by rw [hX]; exact FnBlk.new w f _
  obtain ⟨q0, hq0⟩ : ∃ q, q = rg 0 1024 f.regs := ⟨_, rfl⟩
  obtain ⟨q1, hq1⟩ : ∃ q, q = rg 0 f.regs f.params := ⟨_, rfl⟩
  obtain ⟨q2, hq2⟩ : ∃ q, q = rg 0 2 f.result := ⟨_, rfl⟩
  have hm : fnB f = (q0 && q1 && q2 && !decide ((n : Int) = 0)) := by rw [hq0, hq1, hq2]; unfold fnB; rw [← hn]; congr 2; rw [decide_eq_decide]; omega
  have C0 := Lib.hid (wi_one (w := X) 0 1024 f.regs hi.regs)
  have C1 := Lib.hid (fun wx => wi_one (w := wx) 0 f.regs f.params hi.params)
  have C2 := Lib.hid (fun wx => wi_one (w := wx) 0 2 f.result hi.result)
  rw [← hq0] at C0
  rw [← hq1] at C1
  rw [← hq2] at C2
  have CC := Lib.hid (fun wx (hb : Below X.heap.size X wx) => (h0.below hb (by omega)).all)
  have HX := Lib.hid hX
  have HM := Lib.hid hm
  have HB := Lib.hid hb
  have HS := Lib.hid hs
  rw [hX] at C0
  rw [asz] at C0
  clear hX hb hs h0 hq0 hq1 hq2 hm hn hu hi
  go_enter Tryd.func44, Tryd.ntmps44
  go_wp2_with fail
  refine C0.out.mono ?_
  rintro e w1 ⟨rfl, hb1⟩
  rw [← asz w (.cells #[.string (bs f.name), .int .i64 f.params, .int .i64 f.regs, .int .i64 f.result, .slice A n c] 39), ← HX.out] at hb1
  have HB1 := Lib.hid hb1
  have HE1 := Lib.hid (HB.out.trans (hb1.mono (by have := HS.out; omega)))
  obtain ⟨p0, p1, p2, p3, p4⟩ := CC.out w1 hb1
  have z1 : w.heap.size < w1.heap.size := by have := hb1.size; have := HS.out; omega
  clear hb1 C0
  cases q0 with
  | false =>
    clear CC C1 C2
    go_wp2
    go_ret
    exact ⟨rbool (by rw [HM.out]; simp), HE1.out⟩
  | true =>
    go_wp2_with fail
    refine (C1.out w1).mono ?_
    rintro e w2 ⟨rfl, hb2⟩
    have hb2 := HB1.out.trans (hb2.mono HB1.out.size)
    have HB2 := Lib.hid hb2
    have HE2 := Lib.hid (HB.out.trans (hb2.mono (by have := HS.out; omega)))
    clear p0 p1 p2 p3 p4
    obtain ⟨p0, p1, p2, p3, p4⟩ := CC.out w2 hb2
    have z2 : w.heap.size < w2.heap.size := by have := hb2.size; have := HS.out; omega
    clear hb2 C1
    cases q1 with
    | false =>
      clear CC C2
      go_wp2
      go_ret
      exact ⟨rbool (by rw [HM.out]; simp), HE2.out⟩
    | true =>
      go_wp2_with fail
      refine (C2.out w2).mono ?_
      rintro e w3 ⟨rfl, hb3⟩
      have hb3 := HB2.out.trans (hb3.mono HB2.out.size)
      have HE3 := Lib.hid (HB.out.trans (hb3.mono (by have := HS.out; omega)))
      clear p0 p1 p2 p3 p4
      obtain ⟨p0, p1, p2, p3, p4⟩ := CC.out w3 hb3
      clear hb3 C2 CC
      cases q2 with
      | false =>
        go_wp2
        go_ret
        exact ⟨rbool (by rw [HM.out]; simp), HE3.out⟩
      | true =>
        go_wp2
        go_ret
        exact ⟨rbool (by rw [HM.out]; by_cases h : n = 0 <;> simp [h] <;> omega), HE3.out⟩

set_option maxHeartbeats 1000000 in
set_option maxRecDepth 100000 in
theorem funcs2_any {w : World} {m : Mo} {v : Vm} {g : Nat} (hg : MoBlk w g v) (hm : IsMo w (· < w.heap.size) m v) (x : Int) (hx : In64 x) :
    Calls Tryd.prog 45 #[.int .i64 x, .pointer (some ⟨g, 0, none⟩)] w fun e w' => e = .returned (.bool (!stB m x)) ∧ Below w.heap.size w w' := by
  obtain ⟨A, c, ev, -, hl⟩ := hm.f.form
  obtain ⟨n, hn⟩ : ∃ n, n = m.funcs.length := ⟨_, rfl⟩
  have hL := hm.f
  rw [ev] at hL
  rw [← hn] at ev hl hL
  have k7 : w.cell? ⟨g, 7, none⟩ = some (.slice A n c) := by rw [← ev]; exact hg.cell 7
  have hgs : g < w.heap.size := heap_lt hg
  obtain ⟨q, hq⟩ : ∃ q, q = rg 0 ((n : Int) - 1) x := ⟨_, rfl⟩
  have hst : stB m x = (q && decide ((m.funcs[x.toNat]?.map (·.params)).getD 0 = 0)) := by rw [hq, hn]; rfl
  have C0 := Lib.hid (wi_one (w := w) 0 ((n : Int) - 1) x hx)
  rw [← hq] at C0
  have HQ := Lib.hid hq
  have HST := Lib.hid hst
  have HG := Lib.hid hg
  have HL := Lib.hid hL
  have HN := Lib.hid hn
  have HEV := Lib.hid ev
  have x1 := IntWalk.i64_in ((n : Int) - 1) (by omega)
  clear hq hst hg hm hL hn ev
  go_enter Tryd.func45, Tryd.ntmps45
  go_wp2_with fail
  refine C0.out.mono ?_
  rintro e w1 ⟨rfl, hb1⟩
  have HB1 := Lib.hid hb1
  have k7' : w1.cell? ⟨g, 7, none⟩ = some (.slice A n c) := (hb1.cell (p := ⟨g, 7, none⟩) hgs).trans k7
  clear C0 x1 hb1
  cases q with
  | false =>
    go_wp2
    go_ret
    exact ⟨rbool (by rw [HST.out]; simp), HB1.out⟩
  | true =>
    have hr := rg_iff.1 HQ.out.symm
    obtain ⟨k, rfl⟩ := Int.eq_ofNat_of_zero_le hr.1
    have hk : k < n := by omega
    have hk' : k < m.funcs.length := by rw [← HN.out]; exact hk
    obtain ⟨b, off, u, rfl, hbS, hat, -, -⟩ := HL.out.fn k hk'
    have r1 := (HB1.out.cell (p := ⟨b, off + k * 5 + 1, none⟩) hbS).trans hat.c1
    have HF : Hid (stB m (k : Int) = decide (m.funcs[k].params = 0)) := Lib.hid (by rw [HST.out, Bool.true_and, Int.toNat_natCast, List.getElem?_eq_getElem hk']; rfl)
    obtain ⟨Y, hY⟩ : ∃ Y, Y = m.funcs[k].params := ⟨_, rfl⟩
    rw [← hY] at r1 HF
    clear hat hr hY HL k7 HQ HST
    by_cases hz : Y = 0
    · have HH : Hid ((!stB m (k : Int)) = false) := Lib.hid (by rw [HF.out]; simp [hz])
      go_wp2
      go_ret
      exact ⟨rbool HH.out.symm, HB1.out⟩
    · have HH : Hid ((!stB m (k : Int)) = true) := Lib.hid (by rw [HF.out]; simp [hz])
      have hz' : (Y != 0) = true := by simpa using hz
      go_wp2
      go_ret
      exact ⟨rbool HH.out.symm, HB1.out⟩

set_option maxHeartbeats 2000000 in
set_option maxRecDepth 100000 in
theorem funcs_any {w : World} {m : Mo} {v : Vm} (h : IsMo w (· < w.heap.size) m v) :
    Calls Tryd.prog 28 #[.agg v.arr] w (AnyPost w (funcsM m)) := by
  obtain ⟨X, hX⟩ : ∃ X : World, X = w.alloc (.cells #[v.g, v.s, v.c, v.l, v.i, v.o, v.h, v.f, v.t] 27) := ⟨_, rfl⟩
  have hxb : Below w.heap.size w X := by rw [hX]; exact (Below.refl _ w).alloc (Nat.le_refl _) _
  have hx1 : MoBlk X w.heap.size v := by rw [hX]; exact MoBlk.grow
  have hxs : X.heap.size = w.heap.size + 1 := by rw [hX, asz]
  have hi : ∀ wx, Below X.heap.size X wx → IsMo wx (· < wx.heap.size) m v := fun wx hb => h.grow (hxb.trans (hb.mono (by omega)))
  have hcl : ∀ wx, Below X.heap.size X wx → MoBlk wx w.heap.size v := fun wx hb => hx1.below hb (by omega)
  obtain ⟨A7, c7, e7, -, hl7⟩ := h.f.form
  obtain ⟨A8, c8, e8, -, hl8⟩ := h.t.form
  obtain ⟨n7, hn7⟩ : ∃ n, n = m.funcs.length := ⟨_, rfl⟩
  obtain ⟨n8, hn8⟩ : ∃ n, n = m.threads.length := ⟨_, rfl⟩
  rw [← hn7] at e7 hl7
  rw [← hn8] at e8 hl8
  obtain ⟨q0, hq0⟩ : ∃ q, q = rg 1 12 (n7 : Int) := ⟨_, rfl⟩
  obtain ⟨q3, hq3⟩ : ∃ q, q = m.funcs.any fun f => !fnB f := ⟨_, rfl⟩
  obtain ⟨q4, hq4⟩ : ∃ q, q = m.threads.any fun x => !stB m x := ⟨_, rfl⟩
  obtain ⟨sc, hsc⟩ : ∃ s, s = sumC m.funcs := ⟨_, rfl⟩
  have hall : (m.funcs.all fnB) = !q3 := by rw [hq3, List.not_any_eq_all_not]; simp
  have hall2 : (m.threads.all (stB m)) = !q4 := by rw [hq4, List.not_any_eq_all_not]; simp
  have hm : funcsM m = (q0 && decide (n8 ≤ 4) && decide (sc ≤ 4096) && !q3 && !q4) := by unfold funcsM; rw [hall, hall2, hq0, hn7, hn8, hsc]
  have C0 := Lib.hid (wi_one (w := X) 1 12 (n7 : Int) ⟨by omega, by omega⟩)
  rw [← hq0] at C0
  have CS : Hid (n7 ≤ 12 → ∀ wx, Below X.heap.size X wx → Calls Tryd.prog 34 #[.agg v.arr] wx fun e w' => e = .returned (.int .i64 sc) ∧ Below wx.heap.size wx w') := Lib.hid (fun hle wx hb => by
    rw [hsc]
    exact size_any (hi wx hb) (by omega))
  have C3 : Hid (∀ wx, Below X.heap.size X wx → Calls Tryd.prog 46 #[.slice A7 n7 c7, .func (.func 44) #[] #[]] wx (AnyPost wx q3)) := Lib.hid (fun wx hb => by
    have hf := (hi wx hb).f
    rw [e7] at hf
    have hp : Pred wx 44 #[] m.funcs.length (ArgF wx (· < wx.heap.size) m.funcs) (fun k => !((m.funcs[k]?.map fnB).getD false)) :=
      { ent := fun _ _ => rfl
        call := fun k hk x hx wy hby => by
          obtain ⟨hk', u, rfl, hu, hin⟩ := hx
          rw [List.getElem?_eq_getElem hk']
          exact funcs1_any (hu.keep (w' := wy) (fun b hb => hby.block b hb) (fun _ h => h)) hin }
    have hc := containsF_any hf (fun b hb => hb) hp
    rw [any_range m.funcs (fun f => !fnB f) _ (fun k hk => by rw [List.getElem?_eq_getElem hk]; rfl), ← hq3] at hc
    exact hc)
  have C4 : Hid (∀ wx, Below X.heap.size X wx → Calls Tryd.prog 47 #[.slice A8 n8 c8, .func (.func 45) #[] #[.pointer (some ⟨w.heap.size, 0, none⟩)]] wx (AnyPost wx q4)) := Lib.hid (fun wx hb => by
    have hf := (hi wx hb).t
    rw [e8] at hf
    have hp : Pred wx 45 #[.pointer (some ⟨w.heap.size, 0, none⟩)] m.threads.length (ArgI wx (· < wx.heap.size) m.threads) (fun k => !((m.threads[k]?.map (stB m)).getD false)) :=
      { ent := fun _ _ => rfl
        call := fun k hk x hx wy hby => by
          obtain ⟨hk', rfl, hin⟩ := hx
          rw [List.getElem?_eq_getElem hk']
          have hby' := hb.trans (hby.mono hb.size)
          exact funcs2_any (hcl wy hby') (hi wy hby') _ hin }
    have hc := containsI_any hf (fun b hb => hb) hp
    rw [any_range m.threads (fun x => !stB m x) _ (fun k hk => by rw [List.getElem?_eq_getElem hk]; rfl), ← hq4] at hc
    exact hc)
  have CC : Hid (∀ wx, Below X.heap.size X wx → wx.cell? ⟨w.heap.size, 0, none⟩ = some v.g ∧ wx.cell? ⟨w.heap.size, 1, none⟩ = some v.s ∧ wx.cell? ⟨w.heap.size, 2, none⟩ = some v.c ∧ wx.cell? ⟨w.heap.size, 3, none⟩ = some v.l ∧ wx.cell? ⟨w.heap.size, 4, none⟩ = some v.i ∧ wx.cell? ⟨w.heap.size, 5, none⟩ = some v.o ∧ wx.cell? ⟨w.heap.size, 6, none⟩ = some v.h ∧ wx.cell? ⟨w.heap.size, 7, none⟩ = some (.slice A7 n7 c7) ∧ wx.cell? ⟨w.heap.size, 8, none⟩ = some (.slice A8 n8 c8)) := Lib.hid fun wx hb => by
    obtain ⟨p0, p1, p2, p3, p4, p5, p6, p7, p8⟩ := (hcl wx hb).all
    rw [e7] at p7
    rw [e8] at p8
    exact ⟨p0, p1, p2, p3, p4, p5, p6, p7, p8⟩
  have hq0' : q0 = true → n7 ≤ 12 := fun h => by rw [hq0] at h; have := rg_iff.1 h; omega
  have HQ0 := Lib.hid hq0'
  have HX := Lib.hid hX
  have HM := Lib.hid hm
  have HXB := Lib.hid hxb
  have HXS := Lib.hid hxs
  have x8 : X.cell? ⟨w.heap.size, 7, none⟩ = some (.slice A7 n7 c7) := (CC.out X (Below.refl _ _)).2.2.2.2.2.2.2.1
  rw [hX] at x8
  have harr : v.arr = #[v.g, v.s, v.c, v.l, v.i, v.o, v.h, .slice A7 n7 c7, .slice A8 n8 c8] := by rw [← e7, ← e8]; rfl
  rw [hX, asz] at C0
  rw [harr] at CS
  have harr2 : #[v.g, v.s, v.c, v.l, v.i, v.o, v.h, v.f, v.t] = #[v.g, v.s, v.c, v.l, v.i, v.o, v.h, .slice A7 n7 c7, .slice A8 n8 c8] := by rw [← e7, ← e8]
  rw [harr2] at C0 HX x8
  rw [harr]
  clear hX hxb hx1 hxs hi hcl e7 e8 hn7 hn8 hq0 hq3 hq4 hsc hall hall2 hm h harr harr2 hq0'
  go_enter Tryd.func28, Tryd.ntmps28
  go_wp2_with fail
  refine C0.out.mono ?_
  rintro e w1 ⟨rfl, hb1⟩
  rw [← asz w (.cells #[v.g, v.s, v.c, v.l, v.i, v.o, v.h, .slice A7 n7 c7, .slice A8 n8 c8] 27), ← HX.out] at hb1
  have HB1 := Lib.hid hb1
  have HE1 := Lib.hid (HXB.out.trans (hb1.mono (by have := HXS.out; omega)))
  obtain ⟨p0, p1, p2, p3, p4, p5, p6, p7, p8⟩ := CC.out w1 hb1
  clear hb1 C0 x8
  cases q0 with
  | false =>
    clear CC C3 C4 CS
    go_wp2
    go_ret
    exact ⟨rbool (by rw [HM.out]; simp), HE1.out⟩
  | true =>
    have C2 := Lib.hid (CS.out (HQ0.out rfl))
    clear CS
    by_cases h8 : n8 ≤ 4
    · have i8 : ¬ (4 : Int) < (n8 : Int) := by omega
      go_wp2_with fail
      refine (C2.out w1 HB1.out).mono ?_
      rintro e w2 ⟨rfl, hb2⟩
      have hb2 := HB1.out.trans (hb2.mono HB1.out.size)
      have HB2 := Lib.hid hb2
      have HE2 := Lib.hid (HXB.out.trans (hb2.mono (by have := HXS.out; omega)))
      clear p0 p1 p2 p3 p4 p5 p6 p7 p8 i8 C2
      obtain ⟨p0, p1, p2, p3, p4, p5, p6, p7, p8⟩ := CC.out w2 hb2
      clear hb2
      by_cases hs : sc ≤ 4096
      · have is : ¬ (4096 : Int) < sc := by omega
        go_wp2_with fail
        refine (C3.out w2 HB2.out).mono ?_
        rintro e w3 ⟨rfl, hb3⟩
        have hb3 := HB2.out.trans (hb3.mono HB2.out.size)
        have HB3 := Lib.hid hb3
        have HE3 := Lib.hid (HXB.out.trans (hb3.mono (by have := HXS.out; omega)))
        clear p0 p1 p2 p3 p4 p5 p6 p7 p8 is C3
        obtain ⟨p0, p1, p2, p3, p4, p5, p6, p7, p8⟩ := CC.out w3 hb3
        clear hb3 CC
        cases q3 with
        | true =>
          go_wp2
          go_ret
          exact ⟨rbool (by rw [HM.out]; simp), HE3.out⟩
        | false =>
          go_wp2_with fail
          refine (C4.out w3 HB3.out).mono ?_
          rintro e w4 ⟨rfl, hb4⟩
          have HE4 := Lib.hid (HE3.out.trans (hb4.mono HE3.out.size))
          clear hb4 p0 p1 p2 p3 p4 p5 p6 p7 p8
          have HG : Hid (funcsM m = !q4) := Lib.hid (by rw [HM.out]; simp [h8, hs])
          go_wp2
          go_ret
          exact ⟨rbool HG.out.symm, HE4.out⟩
      · have is : (4096 : Int) < sc := by omega
        have HG : Hid (funcsM m = false) := Lib.hid (by rw [HM.out]; simp [hs])
        clear CC C3 C4
        go_wp2
        go_ret
        exact ⟨rbool HG.out.symm, HE2.out⟩
    · have i8 : (4 : Int) < (n8 : Int) := by omega
      have HG : Hid (funcsM m = false) := Lib.hid (by rw [HM.out]; simp [h8])
      clear CC C3 C4 C2
      go_wp2
      go_ret
      exact ⟨rbool HG.out.symm, HE1.out⟩

end Go.Proofs.YtgohnlcgidmlfaaDoor
