/- CopyModule: the eight plain lists, in whatever order the region draws. -/
import Derived.Test.YtgohnlcgidmlfaaDoorMdi
import Derived.Test.YtgohnlcgidmlfaaDoorMdf
import Derived.Deep.RegionHeld3
import Derived.Deep.Cut
import Derived.Deep.CutRange
import Derived.Deep.WholeRow
set_option linter.unusedVariables false
set_option linter.unusedSimpArgs false
namespace Go.Proofs.YtgohnlcgidmlfaaDoor
open Go.RowKit

/-- a module's cells in block g -/
def MoBlk (w : World) (g : Nat) (v : Vm) : Prop := w.heap[g]? = some (.cells v.arr 27 (0, 0))
theorem MoBlk.cell {w : World} {g : Nat} {v : Vm} (h : MoBlk w g v) (j : Nat) : w.cell? ⟨g, j, none⟩ = v.arr[j]? := cell_of_row w g j _ _ (0, 0) h
theorem MoBlk.below {w w' : World} {g B : Nat} {v : Vm} (h : MoBlk w g v) (hb : Below B w w') (hg : g < B) : MoBlk w' g v := (hb.block g hg).trans h
theorem MoBlk.all {w : World} {g : Nat} {v : Vm} (h : MoBlk w g v) : w.cell? ⟨g, 0, none⟩ = some v.g ∧ w.cell? ⟨g, 1, none⟩ = some v.s ∧ w.cell? ⟨g, 2, none⟩ = some v.c ∧ w.cell? ⟨g, 3, none⟩ = some v.l ∧ w.cell? ⟨g, 4, none⟩ = some v.i ∧ w.cell? ⟨g, 5, none⟩ = some v.o ∧ w.cell? ⟨g, 6, none⟩ = some v.h ∧ w.cell? ⟨g, 7, none⟩ = some v.f ∧ w.cell? ⟨g, 8, none⟩ = some v.t :=
  ⟨h.cell 0, h.cell 1, h.cell 2, h.cell 3, h.cell 4, h.cell 5, h.cell 6, h.cell 7, h.cell 8⟩
theorem MoBlk.fr {w : World} {g : Nat} {v : Vm} (h : MoBlk w g v) (j : Nat) : w.frozen? ⟨g, j, none⟩ = false := frozen_of_row w g j _ _ h

theorem step_store_row {P : Program} {w : World} {ops : Array Oper} {o : Oper} {a : Act} {K : Act → World → Prop} {Q : Exit → Act → World → Prop} {E : Prop} (hgd : o.guard = none) (ty : TypeId) (x y : Operand) (ho : o.op = .store ty x y)
    (g : Nat) (cells : Array Value) (hx : a.eval x = .pointer (some ⟨g, 0, none⟩)) (hy : a.eval y = .agg cells)
    (t : TypeId) (old : Array Value) (hg : w.heap[g]? = some (.cells old t (0, 0))) (hi : (P.info? ty).map (·.size) = some cells.size)
    (hold : old.size = cells.size) (h1 : cells.all (·.oneCell') = true)
    (h : K (a.put o.dst undef) (w.setRow g cells)) : if Region.wanted o (yielded ops a.tmps) = true then Oper.wp P o a w K Q else E := by
  have hw : Region.wanted o (yielded ops a.tmps) = true := by simp [Region.wanted, hgd]
  rw [if_pos hw]
  exact wp_store_row ty x y ho g cells hx hy t old hg hi hold h1 h

/-- a program's code whose functions are still to come, in block gp -/
structure MidM (B : Nat) (X w : World) (m : Mo) (gp : Nat) (v : Vm) : Prop where
  row : MoBlk w gp v
  f : v.f = .slice none 0 0
  lo : B ≤ gp
  lt : gp < w.heap.size
  bel : Below B X w
  is_ : IsMo w (fun b => B ≤ b ∧ b < w.heap.size ∧ b ≠ gp) { m with funcs := [] } v
  own : ∃ lo hi : Nat → Nat, Own8 w lo hi m v ∧ B ≤ lo 0 ∧ hi 7 ≤ w.heap.size ∧ ∀ k, k < 8 → gp < lo k ∨ hi k ≤ gp
def sel8 (a0 a1 a2 a3 a4 a5 a6 a7 : Nat) : Nat → Nat
  | 0 => a0 | 1 => a1 | 2 => a2 | 3 => a3 | 4 => a4 | 5 => a5 | 6 => a6 | _ => a7
theorem Own8.setf {w : World} {lo hi : Nat → Nat} {m : Mo} {v : Vm} (h : Own8 w lo hi m v) (u : Value) : Own8 w lo hi m { v with f := u } := ⟨h.nx, h.le, h.g, h.s, h.c, h.l, h.i, h.o, h.h, h.t⟩

theorem cm_fin {B gp : Nat} {X wy w0 w1 w2 w3 w4 w5 w6 w7 : World} {m : Mo} {lo0 lo1 lo2 lo3 lo4 lo5 lo6 lo7 : Nat} {v0 v1 v2 v3 v4 v5 v6 v7 : Value} {old : Array Value}
    (O0 : OwnH KS 46 w0 lo0 w0.heap.size m.globals v0) (i0 : B ≤ lo0 ∧ (gp < lo0 ∨ w0.heap.size ≤ gp) ∧ lo0 ≤ w0.heap.size)
    (O1 : OwnH KS 46 w1 lo1 w1.heap.size m.structs v1) (i1 : B ≤ lo1 ∧ (gp < lo1 ∨ w1.heap.size ≤ gp) ∧ lo1 ≤ w1.heap.size ∧ w0.heap.size ≤ lo1)
    (O2 : OwnH KS 46 w2 lo2 w2.heap.size m.chans v2) (i2 : B ≤ lo2 ∧ (gp < lo2 ∨ w2.heap.size ≤ gp) ∧ lo2 ≤ w2.heap.size ∧ w1.heap.size ≤ lo2)
    (O3 : OwnH KT 9 w3 lo3 w3.heap.size m.locks v3) (i3 : B ≤ lo3 ∧ (gp < lo3 ∨ w3.heap.size ≤ gp) ∧ lo3 ≤ w3.heap.size ∧ w2.heap.size ≤ lo3)
    (O4 : OwnH KT 9 w4 lo4 w4.heap.size m.inputs v4) (i4 : B ≤ lo4 ∧ (gp < lo4 ∨ w4.heap.size ≤ gp) ∧ lo4 ≤ w4.heap.size ∧ w3.heap.size ≤ lo4)
    (O5 : OwnH KT 9 w5 lo5 w5.heap.size m.sinks v5) (i5 : B ≤ lo5 ∧ (gp < lo5 ∨ w5.heap.size ≤ gp) ∧ lo5 ≤ w5.heap.size ∧ w4.heap.size ≤ lo5)
    (O6 : OwnH KT 9 w6 lo6 w6.heap.size m.hatches v6) (i6 : B ≤ lo6 ∧ (gp < lo6 ∨ w6.heap.size ≤ gp) ∧ lo6 ≤ w6.heap.size ∧ w5.heap.size ≤ lo6)
    (O7 : OwnH KI 3 w7 lo7 w7.heap.size m.threads v7) (i7 : B ≤ lo7 ∧ (gp < lo7 ∨ w7.heap.size ≤ gp) ∧ lo7 ≤ w7.heap.size ∧ w6.heap.size ≤ lo7)
    (q0 : ∀ b, b < w0.heap.size → w1.heap[b]? = w0.heap[b]?) (z0 : w0.heap.size ≤ w1.heap.size)
    (q1 : ∀ b, b < w1.heap.size → w2.heap[b]? = w1.heap[b]?) (z1 : w1.heap.size ≤ w2.heap.size)
    (q2 : ∀ b, b < w2.heap.size → w3.heap[b]? = w2.heap[b]?) (z2 : w2.heap.size ≤ w3.heap.size)
    (q3 : ∀ b, b < w3.heap.size → w4.heap[b]? = w3.heap[b]?) (z3 : w3.heap.size ≤ w4.heap.size)
    (q4 : ∀ b, b < w4.heap.size → w5.heap[b]? = w4.heap[b]?) (z4 : w4.heap.size ≤ w5.heap.size)
    (q5 : ∀ b, b < w5.heap.size → w6.heap[b]? = w5.heap[b]?) (z5 : w5.heap.size ≤ w6.heap.size)
    (q6 : ∀ b, b < w6.heap.size → w7.heap[b]? = w6.heap[b]?) (z6 : w6.heap.size ≤ w7.heap.size)
    (q7 : ∀ b, b < w7.heap.size → wy.heap[b]? = w7.heap[b]?) (z7 : w7.heap.size ≤ wy.heap.size)
    (hgp : B ≤ gp) (hrow : wy.heap[gp]? = some (.cells old 27 (0, 0))) (bel : Below B X wy) :
    MidM B X (wy.setRow gp #[v0, v1, v2, v3, v4, v5, v6, .slice none 0 0, v7]) m gp ⟨v0, v1, v2, v3, v4, v5, v6, .slice none 0 0, v7⟩ := by
  have o0 := O0.lies
  have o1 := O1.lies
  have o2 := O2.lies
  have o3 := O3.lies
  have o4 := O4.lies
  have o5 := O5.lies
  have o6 := O6.lies
  have o7 := O7.lies
  have hlt := heap_lt hrow
  have hk : ∀ b, b ≠ gp → (wy.setRow gp #[v0, v1, v2, v3, v4, v5, v6, .slice none 0 0, v7]).heap[b]? = wy.heap[b]? := fun b hb => setRow_other wy gp b _ hb
  have hs : (wy.setRow gp #[v0, v1, v2, v3, v4, v5, v6, .slice none 0 0, v7]).heap.size = wy.heap.size := setRow_size _ _ _
  generalize hW : wy.setRow gp #[v0, v1, v2, v3, v4, v5, v6, .slice none 0 0, v7] = W at hk hs ⊢
  have hkeep : ∀ b, b ≠ gp → ∀ {w1 : World}, wy.heap[b]? = w1.heap[b]? → W.heap[b]? = w1.heap[b]? := fun b hb _ h => (hk b hb).trans h
  have t7 : ∀ b, b < w7.heap.size → wy.heap[b]? = w7.heap[b]? := q7
  have y7 : w7.heap.size ≤ wy.heap.size := z7
  have t6 : ∀ b, b < w6.heap.size → wy.heap[b]? = w6.heap[b]? := fun b hb => (t7 b (by omega)).trans (q6 b hb)
  have y6 : w6.heap.size ≤ wy.heap.size := by omega
  have t5 : ∀ b, b < w5.heap.size → wy.heap[b]? = w5.heap[b]? := fun b hb => (t6 b (by omega)).trans (q5 b hb)
  have y5 : w5.heap.size ≤ wy.heap.size := by omega
  have t4 : ∀ b, b < w4.heap.size → wy.heap[b]? = w4.heap[b]? := fun b hb => (t5 b (by omega)).trans (q4 b hb)
  have y4 : w4.heap.size ≤ wy.heap.size := by omega
  have t3 : ∀ b, b < w3.heap.size → wy.heap[b]? = w3.heap[b]? := fun b hb => (t4 b (by omega)).trans (q3 b hb)
  have y3 : w3.heap.size ≤ wy.heap.size := by omega
  have t2 : ∀ b, b < w2.heap.size → wy.heap[b]? = w2.heap[b]? := fun b hb => (t3 b (by omega)).trans (q2 b hb)
  have y2 : w2.heap.size ≤ wy.heap.size := by omega
  have t1 : ∀ b, b < w1.heap.size → wy.heap[b]? = w1.heap[b]? := fun b hb => (t2 b (by omega)).trans (q1 b hb)
  have y1 : w1.heap.size ≤ wy.heap.size := by omega
  have t0 : ∀ b, b < w0.heap.size → wy.heap[b]? = w0.heap[b]? := fun b hb => (t1 b (by omega)).trans (q0 b hb)
  have y0 : w0.heap.size ≤ wy.heap.size := by omega
  have hbel : Below B X W := ⟨by rw [← hW]; exact bel.os, by rw [← hW]; exact bel.tape, by rw [← hW]; exact bel.output, by rw [hs]; exact bel.size, fun b hb => (hk b (by omega)).trans (bel.block b hb)⟩
  refine ⟨by rw [← hW]; exact setRow_heap wy gp old _ _ (0, 0) hrow, rfl, hgp, by rw [hs]; exact hlt, hbel, ?_, ?_⟩
  · exact ⟨o0.keep (fun b hb => hkeep b (by omega) (t0 b hb.2)) (fun b hb => ⟨by omega, by omega, by omega⟩), o1.keep (fun b hb => hkeep b (by omega) (t1 b hb.2)) (fun b hb => ⟨by omega, by omega, by omega⟩), o2.keep (fun b hb => hkeep b (by omega) (t2 b hb.2)) (fun b hb => ⟨by omega, by omega, by omega⟩), o3.keep (fun b hb => hkeep b (by omega) (t3 b hb.2)) (fun b hb => ⟨by omega, by omega, by omega⟩), o4.keep (fun b hb => hkeep b (by omega) (t4 b hb.2)) (fun b hb => ⟨by omega, by omega, by omega⟩), o5.keep (fun b hb => hkeep b (by omega) (t5 b hb.2)) (fun b hb => ⟨by omega, by omega, by omega⟩), o6.keep (fun b hb => hkeep b (by omega) (t6 b hb.2)) (fun b hb => ⟨by omega, by omega, by omega⟩), Lies.nil _ _, o7.keep (fun b hb => hkeep b (by omega) (t7 b hb.2)) (fun b hb => ⟨by omega, by omega, by omega⟩)⟩
  · refine ⟨sel8 lo0 lo1 lo2 lo3 lo4 lo5 lo6 lo7, sel8 w0.heap.size w1.heap.size w2.heap.size w3.heap.size w4.heap.size w5.heap.size w6.heap.size w7.heap.size, ⟨fun k hk => match k, hk with | 0, _ => i1.2.2.2 | 1, _ => i2.2.2.2 | 2, _ => i3.2.2.2 | 3, _ => i4.2.2.2 | 4, _ => i5.2.2.2 | 5, _ => i6.2.2.2 | 6, _ => i7.2.2.2 | k + 7, hk => absurd hk (by omega), fun k hk => match k, hk with | 0, _ => i0.2.2 | 1, _ => i1.2.2.1 | 2, _ => i2.2.2.1 | 3, _ => i3.2.2.1 | 4, _ => i4.2.2.1 | 5, _ => i5.2.2.1 | 6, _ => i6.2.2.1 | 7, _ => i7.2.2.1 | k + 8, hk => absurd hk (by omega), O0.keep (fun b hb hb2 => hkeep b (by omega) (t0 b hb2)), O1.keep (fun b hb hb2 => hkeep b (by omega) (t1 b hb2)), O2.keep (fun b hb hb2 => hkeep b (by omega) (t2 b hb2)), O3.keep (fun b hb hb2 => hkeep b (by omega) (t3 b hb2)), O4.keep (fun b hb hb2 => hkeep b (by omega) (t4 b hb2)), O5.keep (fun b hb hb2 => hkeep b (by omega) (t5 b hb2)), O6.keep (fun b hb hb2 => hkeep b (by omega) (t6 b hb2)), O7.keep (fun b hb hb2 => hkeep b (by omega) (t7 b hb2))⟩, i0.1, by show w7.heap.size ≤ _; omega, fun k hk => match k, hk with | 0, _ => i0.2.1 | 1, _ => i1.2.1 | 2, _ => i2.2.1 | 3, _ => i3.2.1 | 4, _ => i4.2.1 | 5, _ => i5.2.1 | 6, _ => i6.2.1 | 7, _ => i7.2.1 | k + 8, hk => absurd hk (by omega)⟩

theorem info_fn : (Tryd.prog.info? 39).map (fun i => (i.zero, i.size, i.bytes)) = some (some (.agg #[.string ⟨#[]⟩, .int .i64 0, .int .i64 0, .int .i64 0, .slice none 0 0]), 5, 64) := by kernel_rfl
theorem MoBlk.set7 {w : World} {g : Nat} {v : Vm} (h : MoBlk w g v) (x : Value) : MoBlk (w.setCell ⟨g, 7, none⟩ x) g { v with f := x } := by
  unfold MoBlk at h ⊢
  simp [World.setCell, Array.getElem?_modify, h, Vm.arr]
/-- block g is a function -/
def FnBlk (w : World) (g : Nat) (f : Fn) (v : Value) : Prop := w.heap[g]? = some (.cells (fnRow f v).toArray 39 (0, 0))
section
variable {w w' : World} {g B : Nat} {f : Fn} {v : Value}
theorem FnBlk.new (w : World) (f : Fn) (v : Value) : FnBlk (w.alloc (.cells (fnRow f v).toArray 39)) w.heap.size f v := heap_alloc_new w _
theorem FnBlk.below (h : FnBlk w g f v) (hb : Below B w w') (hg : g < B) : FnBlk w' g f v := (hb.block g hg).trans h
theorem FnBlk.all (h : FnBlk w g f v) : w.cell? ⟨g, 0, none⟩ = some (.string (bs f.name)) ∧ w.cell? ⟨g, 1, none⟩ = some (.int .i64 f.params) ∧ w.cell? ⟨g, 2, none⟩ = some (.int .i64 f.regs) ∧ w.cell? ⟨g, 3, none⟩ = some (.int .i64 f.result) ∧ w.cell? ⟨g, 4, none⟩ = some v := by
  have hc : ∀ j, w.cell? ⟨g, j, none⟩ = (fnRow f v)[j]? := fun j => by rw [cell_of_row w g j _ _ (0, 0) h]; simp
  exact ⟨hc 0, hc 1, hc 2, hc 3, hc 4⟩
theorem FnBlk.fr (h : FnBlk w g f v) (j : Nat) : w.frozen? ⟨g, j, none⟩ = false := frozen_of_row w g j _ _ h
theorem FnAt.keep {b p : Nat} (h : FnAt w b p f v) (hw : w'.heap[b]? = w.heap[b]?) : FnAt w' b p f v := by
  have hc : ∀ j, w'.cell? ⟨b, j, none⟩ = w.cell? ⟨b, j, none⟩ := fun j => World.cell?_of_block hw
  obtain ⟨c0, c1, c2, c3, c4⟩ := h
  exact ⟨by rw [hc]; exact c0, by rw [hc]; exact c1, by rw [hc]; exact c2, by rw [hc]; exact c3, by rw [hc]; exact c4⟩
end
theorem fnRow_arr (f : Fn) (v : Value) : (fnRow f v).toArray = #[.string (bs f.name), .int .i64 f.params, .int .i64 f.regs, .int .i64 f.result, v] := rfl
theorem asz (w : World) (o : Obj) : (w.alloc o).heap.size = w.heap.size + 1 := by simp
def Bx (B : Nat) (X w : World) : Prop := B ≤ w.heap.size ∧ Below B X w
theorem Bx.alloc {B : Nat} {X w : World} (h : Bx B X w) (o : Obj) : Bx B X (w.alloc o) := ⟨by rw [asz]; have := h.1; omega, h.2.alloc h.1 o⟩
theorem Bx.lo {B : Nat} {X w : World} (h : Bx B X w) : B ≤ w.heap.size := h.1
theorem Bx.drew {B : Nat} {X w : World} (h : Bx B X w) : Bx B X w.drew := ⟨h.1, h.2.drew⟩
theorem Bx.set9 {B g : Nat} {X w : World} (h : Bx B X w) (hg : B ≤ g) (u0 u1 u2 u3 u4 u5 u6 u7 u8 : Value) : Bx B X (((((((((w.setCell ⟨g, 0, none⟩ u0).setCell ⟨g, 1, none⟩ u1).setCell ⟨g, 2, none⟩ u2).setCell ⟨g, 3, none⟩ u3).setCell ⟨g, 4, none⟩ u4).setCell ⟨g, 5, none⟩ u5).setCell ⟨g, 6, none⟩ u6).setCell ⟨g, 7, none⟩ u7).setCell ⟨g, 8, none⟩ u8) :=
  ⟨by simp; exact h.1, ((((((((h.2.setCell hg u0).setCell hg u1).setCell hg u2).setCell hg u3).setCell hg u4).setCell hg u5).setCell hg u6).setCell hg u7).setCell hg u8⟩
theorem Bx.step {B : Nat} {X w w' : World} (h : Bx B X w) (hb : Below w.heap.size w w') : Bx B X w' := ⟨Nat.le_trans h.1 hb.size, h.2.trans (hb.mono h.1)⟩
theorem below_row {w w' : World} {g : Nat} {o : Obj} (hb : Below w.heap.size w w') (h : w.heap[g]? = some o) : w'.heap[g]? = some o := (hb.block g (heap_lt h)).trans h
def nilV : Array Value := #[.slice none 0 0, .slice none 0 0, .slice none 0 0, .slice none 0 0, .slice none 0 0, .slice none 0 0, .slice none 0 0, .slice none 0 0, .slice none 0 0]
theorem nine_cells {w : World} {g : Nat} (h : w.heap[g]? = some (.cells #[.slice none 0 0, .slice none 0 0, .slice none 0 0, .slice none 0 0, .slice none 0 0, .slice none 0 0, .slice none 0 0, .slice none 0 0, .slice none 0 0] 27 (0, 0))) :
    w.cell? ⟨g, 0, none⟩ = some (.slice none 0 0) ∧ w.cell? ⟨g, 1, none⟩ = some (.slice none 0 0) ∧ w.cell? ⟨g, 2, none⟩ = some (.slice none 0 0) ∧ w.cell? ⟨g, 3, none⟩ = some (.slice none 0 0) ∧ w.cell? ⟨g, 4, none⟩ = some (.slice none 0 0) ∧ w.cell? ⟨g, 5, none⟩ = some (.slice none 0 0) ∧ w.cell? ⟨g, 6, none⟩ = some (.slice none 0 0) ∧ w.cell? ⟨g, 7, none⟩ = some (.slice none 0 0) ∧ w.cell? ⟨g, 8, none⟩ = some (.slice none 0 0) ∧ w.frozen? ⟨g, 0, none⟩ = false ∧ w.frozen? ⟨g, 1, none⟩ = false ∧ w.frozen? ⟨g, 2, none⟩ = false ∧ w.frozen? ⟨g, 3, none⟩ = false ∧ w.frozen? ⟨g, 4, none⟩ = false ∧ w.frozen? ⟨g, 5, none⟩ = false ∧ w.frozen? ⟨g, 6, none⟩ = false ∧ w.frozen? ⟨g, 7, none⟩ = false ∧ w.frozen? ⟨g, 8, none⟩ = false := by
  have hc : ∀ j, w.cell? ⟨g, j, none⟩ = (#[.slice none 0 0, .slice none 0 0, .slice none 0 0, .slice none 0 0, .slice none 0 0, .slice none 0 0, .slice none 0 0, .slice none 0 0, .slice none 0 0] : Array Value)[j]? := fun j => cell_of_row w g j _ _ (0, 0) h
  have hf : ∀ j, w.frozen? ⟨g, j, none⟩ = false := fun j => frozen_of_row w g j _ _ h
  exact ⟨hc 0, hc 1, hc 2, hc 3, hc 4, hc 5, hc 6, hc 7, hc 8, hf 0, hf 1, hf 2, hf 3, hf 4, hf 5, hf 6, hf 7, hf 8⟩
theorem nine_set {w : World} {g : Nat} (hrow : w.heap[g]? = some (.cells #[.slice none 0 0, .slice none 0 0, .slice none 0 0, .slice none 0 0, .slice none 0 0, .slice none 0 0, .slice none 0 0, .slice none 0 0, .slice none 0 0] 27 (0, 0))) {u0 u1 u2 u3 u4 u5 u6 u7 u8 : Value} :
    (((((((((w.setCell ⟨g, 0, none⟩ u0).setCell ⟨g, 1, none⟩ u1).setCell ⟨g, 2, none⟩ u2).setCell ⟨g, 3, none⟩ u3).setCell ⟨g, 4, none⟩ u4).setCell ⟨g, 5, none⟩ u5).setCell ⟨g, 6, none⟩ u6).setCell ⟨g, 7, none⟩ u7).setCell ⟨g, 8, none⟩ u8) = w.setRow g #[u0, u1, u2, u3, u4, u5, u6, u7, u8] := by
  have e : ∀ (c : Array Value) (i : Nat) (u : Value), ((w.setRow g c).setCell ⟨g, i, none⟩ u) = w.setRow g (c.setIfInBounds i u) := fun c i u => by
    rw [setCell_eq_setRow (w.setRow g c) g i c _ _ u (setRow_heap w g _ c _ _ hrow), setRow_setRow]
  rw [setCell_eq_setRow w g 0 _ _ _ u0 hrow]
  simp only [e, List.setIfInBounds_toArray, List.set_cons_zero, List.set_cons_succ]
theorem csz (w : World) (a : Addr) (u : Value) : (w.setCell a u).heap.size = w.heap.size := by simp
/-- code that a call has made anew -/
def NewMo (w : World) (m : Mo) (e : Ending) (w' : World) : Prop := ∃ (v : Vm) (lo hi : Nat → Nat) (H : Nat) (T : List FnT), e = .returned (.agg v.arr) ∧ OwnMo w' w.heap.size m v lo hi H T ∧ H ≤ w'.heap.size ∧ Below w.heap.size w w'
theorem MoBlk.of_alloc (w : World) (v : Vm) : MoBlk (w.alloc (.cells v.arr 27)) w.heap.size v := heap_alloc_new w _

theorem apF_more {T : List FnT} {t : FnT} {n : Nat} (h : ApF T) (hn : ∀ a ∈ T, a.hi ≤ n) (ht : n ≤ t.lo) : ApF (T ++ [t]) := by
  unfold ApF at h ⊢
  rw [List.pairwise_append]
  refine ⟨h, by simp, fun a ha b hb => ?_⟩
  simp only [List.mem_singleton] at hb
  subst hb
  exact Nat.le_trans (hn a ha) ht

set_option maxHeartbeats 8000000 in
set_option maxRecDepth 100000 in
theorem copyModule_any {w : World} {m : Mo} {v : Vm} (hin : IsMo w (· < w.heap.size) m v) (hfs : m.funcs.length ≤ 1000000 ∧ ∀ f ∈ m.funcs, f.code.length ≤ 1000000 ∧ ∀ o ∈ f.code, o.args.length ≤ 1000000) (hl : m.globals.length ≤ 1000000 ∧ m.structs.length ≤ 1000000 ∧ m.chans.length ≤ 1000000 ∧ m.locks.length ≤ 1000000 ∧ m.inputs.length ≤ 1000000 ∧ m.sinks.length ≤ 1000000 ∧ m.hatches.length ≤ 1000000 ∧ m.threads.length ≤ 1000000) :
    Calls Tryd.prog 10 #[.agg v.arr] w (NewMo w m) := by
  obtain ⟨l0, l1, l2, l3, l4, l5, l6, l7⟩ := hl
  have HIN := Lib.hid hin
  have HL := Lib.hid hfs
  clear hin hfs
  simp only [Vm.arr]
  go_enter Tryd.func10, Tryd.ntmps10
  go_wp2
  obtain ⟨X, hX⟩ : ∃ X : World, X = (w.alloc (.cells #[v.g, v.s, v.c, v.l, v.i, v.o, v.h, v.f, v.t] 27)).alloc (.cells #[.slice none 0 0, .slice none 0 0, .slice none 0 0, .slice none 0 0, .slice none 0 0, .slice none 0 0, .slice none 0 0, .slice none 0 0, .slice none 0 0] 27) := ⟨_, rfl⟩
  obtain ⟨g, hg⟩ : ∃ g, g = w.heap.size := ⟨_, rfl⟩
  have hx1 : MoBlk X g v := by rw [hX, hg]; exact (Below.heap_alloc _ _ _ (by simp)).trans (MoBlk.of_alloc w v)
  have hx2 : X.heap[g + 1]? = some (.cells #[.slice none 0 0, .slice none 0 0, .slice none 0 0, .slice none 0 0, .slice none 0 0, .slice none 0 0, .slice none 0 0, .slice none 0 0, .slice none 0 0] 27 (0, 0)) := by rw [hX, hg, ← asz w (.cells #[v.g, v.s, v.c, v.l, v.i, v.o, v.h, v.f, v.t] 27)]; exact heap_alloc_new _ _
  have hxs : X.heap.size = g + 2 := by rw [hX, hg]; simp
  have hxb : Below g w X := by rw [hX, hg]; exact ((Below.refl _ w).alloc (Nat.le_refl _) _).alloc (by simp) _
  have hin : ∀ wx, Bx (g + 2) X wx → IsMo wx (· < g) m v := fun wx hb => by
    have := HIN.out.below (B := w.heap.size) (w' := wx) (by rw [← hg]; exact hxb.trans (hb.2.mono (by omega)))
    rw [← hg] at this
    exact this
  rw [← hX, ← hg]
  have C0 := Lib.hid (show ∀ wx, Bx (g + 2) X wx → Calls Tryd.prog 23 #[v.g] wx (NewL KS 46 wx m.globals) from fun wx hb => copySized_any (hin wx hb).g l0 (fun b hb2 => by have := hb.1; omega))
  have C1 := Lib.hid (show ∀ wx, Bx (g + 2) X wx → Calls Tryd.prog 23 #[v.s] wx (NewL KS 46 wx m.structs) from fun wx hb => copySized_any (hin wx hb).s l1 (fun b hb2 => by have := hb.1; omega))
  have C2 := Lib.hid (show ∀ wx, Bx (g + 2) X wx → Calls Tryd.prog 23 #[v.c] wx (NewL KS 46 wx m.chans) from fun wx hb => copySized_any (hin wx hb).c l2 (fun b hb2 => by have := hb.1; omega))
  have C3 := Lib.hid (show ∀ wx, Bx (g + 2) X wx → Calls Tryd.prog 24 #[v.l] wx (NewL KT 9 wx m.locks) from fun wx hb => copyTexts_any (hin wx hb).l l3 (fun b hb2 => by have := hb.1; omega))
  have C4 := Lib.hid (show ∀ wx, Bx (g + 2) X wx → Calls Tryd.prog 24 #[v.i] wx (NewL KT 9 wx m.inputs) from fun wx hb => copyTexts_any (hin wx hb).i l4 (fun b hb2 => by have := hb.1; omega))
  have C5 := Lib.hid (show ∀ wx, Bx (g + 2) X wx → Calls Tryd.prog 24 #[v.o] wx (NewL KT 9 wx m.sinks) from fun wx hb => copyTexts_any (hin wx hb).o l5 (fun b hb2 => by have := hb.1; omega))
  have C6 := Lib.hid (show ∀ wx, Bx (g + 2) X wx → Calls Tryd.prog 24 #[v.h] wx (NewL KT 9 wx m.hatches) from fun wx hb => copyTexts_any (hin wx hb).h l6 (fun b hb2 => by have := hb.1; omega))
  have C7 := Lib.hid (show ∀ wx, Bx (g + 2) X wx → Calls Tryd.prog 25 #[v.t] wx (NewL KI 3 wx m.threads) from fun wx hb => copyInts_any (hin wx hb).t l7 (fun b hb2 => by have := hb.1; omega))
  have hcells := fun (wx : World) (hb : Bx (g + 2) X wx) => (hx1.below hb.2 (by omega)).all
  have HB := Lib.hid (show Bx (g + 2) X X from ⟨by omega, Below.refl _ _⟩)
  have HXB := Lib.hid hxb
  have HXS := Lib.hid hxs
  have HG := Lib.hid hg
  have HX1 := Lib.hid hx1
  have HX2 := Lib.hid hx2
  have KS' : ∀ wx, Bx (g + 2) X wx → wx.cell? ⟨g, 0, none⟩ = some v.g ∧ wx.cell? ⟨g, 1, none⟩ = some v.s ∧ wx.cell? ⟨g, 2, none⟩ = some v.c ∧ wx.cell? ⟨g, 3, none⟩ = some v.l ∧ wx.cell? ⟨g, 4, none⟩ = some v.i ∧ wx.cell? ⟨g, 5, none⟩ = some v.o ∧ wx.cell? ⟨g, 6, none⟩ = some v.h ∧ wx.cell? ⟨g, 8, none⟩ = some v.t := fun wx hb => by
    obtain ⟨c0, c1, c2, c3, c4, c5, c6, c7, c8⟩ := hcells wx hb
    exact ⟨c0, c1, c2, c3, c4, c5, c6, c8⟩
  have KSS := Lib.hid KS'
  obtain ⟨p0, p1, p2, p3, p4, p5, p6, p8⟩ := KS' X HB.out
  clear hX hx1 hx2 hxs hxb hin hg hcells KS'
  go_cut [3] from 6 to 30 (fun p wx => ∃ gp vv, p = .pointer (some ⟨gp, 0, none⟩) ∧ Hid (MidM (g + 2) X wx m gp vv))
  case first =>
    go_region_held3 (fun w' => w'.cell? ⟨g, 0, none⟩ = some v.g ∧ w'.cell? ⟨g, 1, none⟩ = some v.s ∧ w'.cell? ⟨g, 2, none⟩ = some v.c ∧ w'.cell? ⟨g, 3, none⟩ = some v.l ∧ w'.cell? ⟨g, 4, none⟩ = some v.i ∧ w'.cell? ⟨g, 5, none⟩ = some v.o ∧ w'.cell? ⟨g, 6, none⟩ = some v.h ∧ w'.cell? ⟨g, 8, none⟩ = some v.t) (first | (with_reducible exact KSS.out _ HB7.out) | (with_reducible exact KSS.out _ HB6.out) | (with_reducible exact KSS.out _ HB5.out) | (with_reducible exact KSS.out _ HB4.out) | (with_reducible exact KSS.out _ HB3.out) | (with_reducible exact KSS.out _ HB2.out) | (with_reducible exact KSS.out _ HB1.out) | (with_reducible exact KSS.out _ HB0.out) | (with_reducible exact KSS.out _ HB.out.drew) | (with_reducible exact KSS.out _ (Bx.alloc HB7.out _)) | (with_reducible exact KSS.out _ (Bx.alloc HB6.out _)) | (with_reducible exact KSS.out _ (Bx.alloc HB5.out _)) | (with_reducible exact KSS.out _ (Bx.alloc HB4.out _)) | (with_reducible exact KSS.out _ (Bx.alloc HB3.out _)) | (with_reducible exact KSS.out _ (Bx.alloc HB2.out _)) | (with_reducible exact KSS.out _ (Bx.alloc HB1.out _)) | (with_reducible exact KSS.out _ (Bx.alloc HB0.out _)) | (with_reducible exact KSS.out _ (Bx.alloc HB.out.drew _)) | (with_reducible exact KSS.out _ (Bx.drew (Bx.alloc HB.out _))) | (with_reducible exact KSS.out _ (Bx.set9 HB7.out (Bx.lo HB7.out) _ _ _ _ _ _ _ _ _)) | (with_reducible exact KSS.out _ (Bx.set9 HB7.out (Bx.lo HB6.out) _ _ _ _ _ _ _ _ _)) | (with_reducible exact KSS.out _ (Bx.set9 HB7.out (Bx.lo HB5.out) _ _ _ _ _ _ _ _ _)) | (with_reducible exact KSS.out _ (Bx.set9 HB7.out (Bx.lo HB4.out) _ _ _ _ _ _ _ _ _)) | (with_reducible exact KSS.out _ (Bx.set9 HB7.out (Bx.lo HB3.out) _ _ _ _ _ _ _ _ _)) | (with_reducible exact KSS.out _ (Bx.set9 HB7.out (Bx.lo HB2.out) _ _ _ _ _ _ _ _ _)) | (with_reducible exact KSS.out _ (Bx.set9 HB7.out (Bx.lo HB1.out) _ _ _ _ _ _ _ _ _)) | (with_reducible exact KSS.out _ (Bx.set9 HB7.out (Bx.lo HB0.out) _ _ _ _ _ _ _ _ _)) | (with_reducible exact KSS.out _ (Bx.set9 HB7.out (Bx.lo HB.out.drew) _ _ _ _ _ _ _ _ _)) | (with_reducible exact KSS.out _ (Bx.set9 HB7.out (Bx.lo HB.out) _ _ _ _ _ _ _ _ _))) (first
      | (go_at_call 23; (with_reducible refine (C0.out _ ?_).mono ?_); (first | (with_reducible exact HB.out.drew) | (with_reducible exact Bx.alloc HB.out.drew _) | (with_reducible exact Bx.drew (Bx.alloc HB.out _))); rintro e w0 ⟨v0, rfl, o0, b0⟩; obtain ⟨a0, k0, rfl, -, -⟩ := o0.lies.form; have HB0 := Lib.hid (show Bx (g + 2) X w0 from Bx.step (by (first | (with_reducible exact HB.out.drew) | (with_reducible exact Bx.alloc HB.out.drew _) | (with_reducible exact Bx.drew (Bx.alloc HB.out _)))) b0); have O0 := Lib.hid o0; have D0 := Lib.hid b0; clear o0 b0)
      | (go_at_call 23; (with_reducible refine (C1.out _ ?_).mono ?_); (first | (with_reducible exact HB0.out) | (with_reducible exact Bx.alloc HB0.out _)); rintro e w1 ⟨v1, rfl, o1, b1⟩; obtain ⟨a1, k1, rfl, -, -⟩ := o1.lies.form; have HB1 := Lib.hid (show Bx (g + 2) X w1 from Bx.step (by (first | (with_reducible exact HB0.out) | (with_reducible exact Bx.alloc HB0.out _))) b1); have O1 := Lib.hid o1; have D1 := Lib.hid b1; clear o1 b1)
      | (go_at_call 23; (with_reducible refine (C2.out _ ?_).mono ?_); (first | (with_reducible exact HB1.out) | (with_reducible exact Bx.alloc HB1.out _)); rintro e w2 ⟨v2, rfl, o2, b2⟩; obtain ⟨a2, k2, rfl, -, -⟩ := o2.lies.form; have HB2 := Lib.hid (show Bx (g + 2) X w2 from Bx.step (by (first | (with_reducible exact HB1.out) | (with_reducible exact Bx.alloc HB1.out _))) b2); have O2 := Lib.hid o2; have D2 := Lib.hid b2; clear o2 b2)
      | (go_at_call 24; (with_reducible refine (C3.out _ ?_).mono ?_); (first | (with_reducible exact HB2.out) | (with_reducible exact Bx.alloc HB2.out _)); rintro e w3 ⟨v3, rfl, o3, b3⟩; obtain ⟨a3, k3, rfl, -, -⟩ := o3.lies.form; have HB3 := Lib.hid (show Bx (g + 2) X w3 from Bx.step (by (first | (with_reducible exact HB2.out) | (with_reducible exact Bx.alloc HB2.out _))) b3); have O3 := Lib.hid o3; have D3 := Lib.hid b3; clear o3 b3)
      | (go_at_call 24; (with_reducible refine (C4.out _ ?_).mono ?_); (first | (with_reducible exact HB3.out) | (with_reducible exact Bx.alloc HB3.out _)); rintro e w4 ⟨v4, rfl, o4, b4⟩; obtain ⟨a4, k4, rfl, -, -⟩ := o4.lies.form; have HB4 := Lib.hid (show Bx (g + 2) X w4 from Bx.step (by (first | (with_reducible exact HB3.out) | (with_reducible exact Bx.alloc HB3.out _))) b4); have O4 := Lib.hid o4; have D4 := Lib.hid b4; clear o4 b4)
      | (go_at_call 24; (with_reducible refine (C5.out _ ?_).mono ?_); (first | (with_reducible exact HB4.out) | (with_reducible exact Bx.alloc HB4.out _)); rintro e w5 ⟨v5, rfl, o5, b5⟩; obtain ⟨a5, k5, rfl, -, -⟩ := o5.lies.form; have HB5 := Lib.hid (show Bx (g + 2) X w5 from Bx.step (by (first | (with_reducible exact HB4.out) | (with_reducible exact Bx.alloc HB4.out _))) b5); have O5 := Lib.hid o5; have D5 := Lib.hid b5; clear o5 b5)
      | (go_at_call 24; (with_reducible refine (C6.out _ ?_).mono ?_); (first | (with_reducible exact HB5.out) | (with_reducible exact Bx.alloc HB5.out _)); rintro e w6 ⟨v6, rfl, o6, b6⟩; obtain ⟨a6, k6, rfl, -, -⟩ := o6.lies.form; have HB6 := Lib.hid (show Bx (g + 2) X w6 from Bx.step (by (first | (with_reducible exact HB5.out) | (with_reducible exact Bx.alloc HB5.out _))) b6); have O6 := Lib.hid o6; have D6 := Lib.hid b6; clear o6 b6)
      | (go_at_call 25; (with_reducible refine (C7.out _ ?_).mono ?_); (first | (with_reducible exact HB6.out) | (with_reducible exact Bx.alloc HB6.out _)); rintro e w7 ⟨v7, rfl, o7, b7⟩; obtain ⟨a7, k7, rfl, -, -⟩ := o7.lies.form; have HB7 := Lib.hid (show Bx (g + 2) X w7 from Bx.step (by (first | (with_reducible exact HB6.out) | (with_reducible exact Bx.alloc HB6.out _))) b7); have O7 := Lib.hid o7; have D7 := Lib.hid b7; clear o7 b7; (first | (have hrw := nine_cells (below_row D7.out (heap_alloc_new _ _)); obtain ⟨z0, z1, z2, z3, z4, z5, z6, z7, z8, y0, y1, y2, y3, y4, y5, y6, y7, y8⟩ := hrw) | (have hrw := nine_cells (below_row D7.out (below_row D6.out (heap_alloc_new _ _))); obtain ⟨z0, z1, z2, z3, z4, z5, z6, z7, z8, y0, y1, y2, y3, y4, y5, y6, y7, y8⟩ := hrw) | (have hrw := nine_cells (below_row D7.out (below_row D6.out (below_row D5.out (heap_alloc_new _ _)))); obtain ⟨z0, z1, z2, z3, z4, z5, z6, z7, z8, y0, y1, y2, y3, y4, y5, y6, y7, y8⟩ := hrw) | (have hrw := nine_cells (below_row D7.out (below_row D6.out (below_row D5.out (below_row D4.out (heap_alloc_new _ _))))); obtain ⟨z0, z1, z2, z3, z4, z5, z6, z7, z8, y0, y1, y2, y3, y4, y5, y6, y7, y8⟩ := hrw) | (have hrw := nine_cells (below_row D7.out (below_row D6.out (below_row D5.out (below_row D4.out (below_row D3.out (heap_alloc_new _ _)))))); obtain ⟨z0, z1, z2, z3, z4, z5, z6, z7, z8, y0, y1, y2, y3, y4, y5, y6, y7, y8⟩ := hrw) | (have hrw := nine_cells (below_row D7.out (below_row D6.out (below_row D5.out (below_row D4.out (below_row D3.out (below_row D2.out (heap_alloc_new _ _))))))); obtain ⟨z0, z1, z2, z3, z4, z5, z6, z7, z8, y0, y1, y2, y3, y4, y5, y6, y7, y8⟩ := hrw) | (have hrw := nine_cells (below_row D7.out (below_row D6.out (below_row D5.out (below_row D4.out (below_row D3.out (below_row D2.out (below_row D1.out (heap_alloc_new _ _)))))))); obtain ⟨z0, z1, z2, z3, z4, z5, z6, z7, z8, y0, y1, y2, y3, y4, y5, y6, y7, y8⟩ := hrw) | (have hrw := nine_cells (below_row D7.out (below_row D6.out (below_row D5.out (below_row D4.out (below_row D3.out (below_row D2.out (below_row D1.out (below_row D0.out (heap_alloc_new _ _))))))))); obtain ⟨z0, z1, z2, z3, z4, z5, z6, z7, z8, y0, y1, y2, y3, y4, y5, y6, y7, y8⟩ := hrw) | skip)))
    all_goals go_wp2_with fail
    all_goals go_meet
    case rel =>
      have hxs := HXS.out
      have y0 : X.heap.size ≤ w0.heap.size := D0.out.size
      have y1 : w0.heap.size ≤ w1.heap.size := D1.out.size
      have y2 : w1.heap.size ≤ w2.heap.size := D2.out.size
      have y3 : w2.heap.size ≤ w3.heap.size := D3.out.size
      have y4 : w3.heap.size ≤ w4.heap.size := D4.out.size
      have y5 : w4.heap.size ≤ w5.heap.size := D5.out.size
      have y6 : w5.heap.size ≤ w6.heap.size := D6.out.size
      have y7 : w6.heap.size ≤ w7.heap.size := D7.out.size
      have o0 : OwnH KS 46 w0 (X.heap.size) w0.heap.size m.globals _ := O0.out.h
      have o1 : OwnH KS 46 w1 (w0.heap.size) w1.heap.size m.structs _ := O1.out.h
      have o2 : OwnH KS 46 w2 (w1.heap.size) w2.heap.size m.chans _ := O2.out.h
      have o3 : OwnH KT 9 w3 (w2.heap.size) w3.heap.size m.locks _ := O3.out.h
      have o4 : OwnH KT 9 w4 (w3.heap.size) w4.heap.size m.inputs _ := O4.out.h
      have o5 : OwnH KT 9 w5 (w4.heap.size) w5.heap.size m.sinks _ := O5.out.h
      have o6 : OwnH KT 9 w6 (w5.heap.size) w6.heap.size m.hatches _ := O6.out.h
      have o7 : OwnH KI 3 w7 (w6.heap.size) w7.heap.size m.threads _ := O7.out.h
      have hrow : (w7.alloc (.cells #[.slice none 0 0, .slice none 0 0, .slice none 0 0, .slice none 0 0, .slice none 0 0, .slice none 0 0, .slice none 0 0, .slice none 0 0, .slice none 0 0] 27)).heap[w7.heap.size]? = some (.cells #[.slice none 0 0, .slice none 0 0, .slice none 0 0, .slice none 0 0, .slice none 0 0, .slice none 0 0, .slice none 0 0, .slice none 0 0, .slice none 0 0] 27 (0, 0)) := heap_alloc_new _ _
      have hfin := cm_fin (B := g + 2) (X := X) (m := m) o0 ⟨by omega, by omega, by omega⟩ o1 ⟨by omega, by omega, by omega, by omega⟩ o2 ⟨by omega, by omega, by omega, by omega⟩ o3 ⟨by omega, by omega, by omega, by omega⟩ o4 ⟨by omega, by omega, by omega, by omega⟩ o5 ⟨by omega, by omega, by omega, by omega⟩ o6 ⟨by omega, by omega, by omega, by omega⟩ o7 ⟨by omega, by omega, by omega, by omega⟩ (fun b hb => D1.out.block b hb) (by omega) (fun b hb => D2.out.block b hb) (by omega) (fun b hb => D3.out.block b hb) (by omega) (fun b hb => D4.out.block b hb) (by omega) (fun b hb => D5.out.block b hb) (by omega) (fun b hb => D6.out.block b hb) (by omega) (fun b hb => D7.out.block b hb) (by omega) (fun b hb => Below.heap_alloc _ _ b hb) (by rw [asz]; omega) (by omega) hrow (HB7.out.alloc _).2
      rw [World.setRow_alloc_new] at hfin
      exact ⟨_, _, rfl, Lib.hid hfin⟩
    case rel =>
      have hxs := HXS.out
      have y0 : X.heap.size ≤ w0.heap.size := D0.out.size
      have y1 : w0.heap.size ≤ w1.heap.size := D1.out.size
      have y2 : w1.heap.size ≤ w2.heap.size := D2.out.size
      have y3 : w2.heap.size ≤ w3.heap.size := D3.out.size
      have y4 : w3.heap.size ≤ w4.heap.size := D4.out.size
      have y5 : w4.heap.size ≤ w5.heap.size := D5.out.size
      have y6 : w5.heap.size ≤ w6.heap.size := D6.out.size
      have y7 := D7.out.size
      rw [asz] at y7
      have o0 : OwnH KS 46 w0 (X.heap.size) w0.heap.size m.globals _ := O0.out.h
      have o1 : OwnH KS 46 w1 (w0.heap.size) w1.heap.size m.structs _ := O1.out.h
      have o2 : OwnH KS 46 w2 (w1.heap.size) w2.heap.size m.chans _ := O2.out.h
      have o3 : OwnH KT 9 w3 (w2.heap.size) w3.heap.size m.locks _ := O3.out.h
      have o4 : OwnH KT 9 w4 (w3.heap.size) w4.heap.size m.inputs _ := O4.out.h
      have o5 : OwnH KT 9 w5 (w4.heap.size) w5.heap.size m.sinks _ := O5.out.h
      have o6 : OwnH KT 9 w6 (w5.heap.size) w6.heap.size m.hatches _ := O6.out.h
      have o7 : OwnH KI 3 w7 (w6.heap.size + 1) w7.heap.size m.threads _ := O7.out.h.mono (Nat.le_of_eq (asz _ _).symm) (Nat.le_refl _)
      have hrow : w7.heap[w6.heap.size]? = some (.cells #[.slice none 0 0, .slice none 0 0, .slice none 0 0, .slice none 0 0, .slice none 0 0, .slice none 0 0, .slice none 0 0, .slice none 0 0, .slice none 0 0] 27 (0, 0)) := below_row D7.out (heap_alloc_new _ _)
      have hfin := cm_fin (B := g + 2) (X := X) (m := m) o0 ⟨by omega, by omega, by omega⟩ o1 ⟨by omega, by omega, by omega, by omega⟩ o2 ⟨by omega, by omega, by omega, by omega⟩ o3 ⟨by omega, by omega, by omega, by omega⟩ o4 ⟨by omega, by omega, by omega, by omega⟩ o5 ⟨by omega, by omega, by omega, by omega⟩ o6 ⟨by omega, by omega, by omega, by omega⟩ o7 ⟨by omega, by omega, by omega, by omega⟩ (fun b hb => D1.out.block b hb) (by omega) (fun b hb => D2.out.block b hb) (by omega) (fun b hb => D3.out.block b hb) (by omega) (fun b hb => D4.out.block b hb) (by omega) (fun b hb => D5.out.block b hb) (by omega) (fun b hb => D6.out.block b hb) (by omega) (fun b hb => (D7.out.block b (by rw [asz]; omega)).trans (Below.heap_alloc _ _ b hb)) (by omega) (fun _ _ => rfl) (Nat.le_refl _) (by omega) hrow HB7.out.2
      rw [← nine_set hrow] at hfin
      exact ⟨_, _, rfl, Lib.hid hfin⟩
    case rel =>
      have hxs := HXS.out
      have y0 : X.heap.size ≤ w0.heap.size := D0.out.size
      have y1 : w0.heap.size ≤ w1.heap.size := D1.out.size
      have y2 : w1.heap.size ≤ w2.heap.size := D2.out.size
      have y3 : w2.heap.size ≤ w3.heap.size := D3.out.size
      have y4 : w3.heap.size ≤ w4.heap.size := D4.out.size
      have y5 : w4.heap.size ≤ w5.heap.size := D5.out.size
      have y6 := D6.out.size
      rw [asz] at y6
      have y7 : w6.heap.size ≤ w7.heap.size := D7.out.size
      have o0 : OwnH KS 46 w0 (X.heap.size) w0.heap.size m.globals _ := O0.out.h
      have o1 : OwnH KS 46 w1 (w0.heap.size) w1.heap.size m.structs _ := O1.out.h
      have o2 : OwnH KS 46 w2 (w1.heap.size) w2.heap.size m.chans _ := O2.out.h
      have o3 : OwnH KT 9 w3 (w2.heap.size) w3.heap.size m.locks _ := O3.out.h
      have o4 : OwnH KT 9 w4 (w3.heap.size) w4.heap.size m.inputs _ := O4.out.h
      have o5 : OwnH KT 9 w5 (w4.heap.size) w5.heap.size m.sinks _ := O5.out.h
      have o6 : OwnH KT 9 w6 (w5.heap.size + 1) w6.heap.size m.hatches _ := O6.out.h.mono (Nat.le_of_eq (asz _ _).symm) (Nat.le_refl _)
      have o7 : OwnH KI 3 w7 (w6.heap.size) w7.heap.size m.threads _ := O7.out.h
      have hrow : w7.heap[w5.heap.size]? = some (.cells #[.slice none 0 0, .slice none 0 0, .slice none 0 0, .slice none 0 0, .slice none 0 0, .slice none 0 0, .slice none 0 0, .slice none 0 0, .slice none 0 0] 27 (0, 0)) := below_row D7.out (below_row D6.out (heap_alloc_new _ _))
      have hfin := cm_fin (B := g + 2) (X := X) (m := m) o0 ⟨by omega, by omega, by omega⟩ o1 ⟨by omega, by omega, by omega, by omega⟩ o2 ⟨by omega, by omega, by omega, by omega⟩ o3 ⟨by omega, by omega, by omega, by omega⟩ o4 ⟨by omega, by omega, by omega, by omega⟩ o5 ⟨by omega, by omega, by omega, by omega⟩ o6 ⟨by omega, by omega, by omega, by omega⟩ o7 ⟨by omega, by omega, by omega, by omega⟩ (fun b hb => D1.out.block b hb) (by omega) (fun b hb => D2.out.block b hb) (by omega) (fun b hb => D3.out.block b hb) (by omega) (fun b hb => D4.out.block b hb) (by omega) (fun b hb => D5.out.block b hb) (by omega) (fun b hb => (D6.out.block b (by rw [asz]; omega)).trans (Below.heap_alloc _ _ b hb)) (by omega) (fun b hb => D7.out.block b hb) (by omega) (fun _ _ => rfl) (Nat.le_refl _) (by omega) hrow HB7.out.2
      rw [← nine_set hrow] at hfin
      exact ⟨_, _, rfl, Lib.hid hfin⟩
    case rel =>
      have hxs := HXS.out
      have y0 : X.heap.size ≤ w0.heap.size := D0.out.size
      have y1 : w0.heap.size ≤ w1.heap.size := D1.out.size
      have y2 : w1.heap.size ≤ w2.heap.size := D2.out.size
      have y3 : w2.heap.size ≤ w3.heap.size := D3.out.size
      have y4 : w3.heap.size ≤ w4.heap.size := D4.out.size
      have y5 := D5.out.size
      rw [asz] at y5
      have y6 : w5.heap.size ≤ w6.heap.size := D6.out.size
      have y7 : w6.heap.size ≤ w7.heap.size := D7.out.size
      have o0 : OwnH KS 46 w0 (X.heap.size) w0.heap.size m.globals _ := O0.out.h
      have o1 : OwnH KS 46 w1 (w0.heap.size) w1.heap.size m.structs _ := O1.out.h
      have o2 : OwnH KS 46 w2 (w1.heap.size) w2.heap.size m.chans _ := O2.out.h
      have o3 : OwnH KT 9 w3 (w2.heap.size) w3.heap.size m.locks _ := O3.out.h
      have o4 : OwnH KT 9 w4 (w3.heap.size) w4.heap.size m.inputs _ := O4.out.h
      have o5 : OwnH KT 9 w5 (w4.heap.size + 1) w5.heap.size m.sinks _ := O5.out.h.mono (Nat.le_of_eq (asz _ _).symm) (Nat.le_refl _)
      have o6 : OwnH KT 9 w6 (w5.heap.size) w6.heap.size m.hatches _ := O6.out.h
      have o7 : OwnH KI 3 w7 (w6.heap.size) w7.heap.size m.threads _ := O7.out.h
      have hrow : w7.heap[w4.heap.size]? = some (.cells #[.slice none 0 0, .slice none 0 0, .slice none 0 0, .slice none 0 0, .slice none 0 0, .slice none 0 0, .slice none 0 0, .slice none 0 0, .slice none 0 0] 27 (0, 0)) := below_row D7.out (below_row D6.out (below_row D5.out (heap_alloc_new _ _)))
      have hfin := cm_fin (B := g + 2) (X := X) (m := m) o0 ⟨by omega, by omega, by omega⟩ o1 ⟨by omega, by omega, by omega, by omega⟩ o2 ⟨by omega, by omega, by omega, by omega⟩ o3 ⟨by omega, by omega, by omega, by omega⟩ o4 ⟨by omega, by omega, by omega, by omega⟩ o5 ⟨by omega, by omega, by omega, by omega⟩ o6 ⟨by omega, by omega, by omega, by omega⟩ o7 ⟨by omega, by omega, by omega, by omega⟩ (fun b hb => D1.out.block b hb) (by omega) (fun b hb => D2.out.block b hb) (by omega) (fun b hb => D3.out.block b hb) (by omega) (fun b hb => D4.out.block b hb) (by omega) (fun b hb => (D5.out.block b (by rw [asz]; omega)).trans (Below.heap_alloc _ _ b hb)) (by omega) (fun b hb => D6.out.block b hb) (by omega) (fun b hb => D7.out.block b hb) (by omega) (fun _ _ => rfl) (Nat.le_refl _) (by omega) hrow HB7.out.2
      rw [← nine_set hrow] at hfin
      exact ⟨_, _, rfl, Lib.hid hfin⟩
    case rel =>
      have hxs := HXS.out
      have y0 : X.heap.size ≤ w0.heap.size := D0.out.size
      have y1 : w0.heap.size ≤ w1.heap.size := D1.out.size
      have y2 : w1.heap.size ≤ w2.heap.size := D2.out.size
      have y3 : w2.heap.size ≤ w3.heap.size := D3.out.size
      have y4 := D4.out.size
      rw [asz] at y4
      have y5 : w4.heap.size ≤ w5.heap.size := D5.out.size
      have y6 : w5.heap.size ≤ w6.heap.size := D6.out.size
      have y7 : w6.heap.size ≤ w7.heap.size := D7.out.size
      have o0 : OwnH KS 46 w0 (X.heap.size) w0.heap.size m.globals _ := O0.out.h
      have o1 : OwnH KS 46 w1 (w0.heap.size) w1.heap.size m.structs _ := O1.out.h
      have o2 : OwnH KS 46 w2 (w1.heap.size) w2.heap.size m.chans _ := O2.out.h
      have o3 : OwnH KT 9 w3 (w2.heap.size) w3.heap.size m.locks _ := O3.out.h
      have o4 : OwnH KT 9 w4 (w3.heap.size + 1) w4.heap.size m.inputs _ := O4.out.h.mono (Nat.le_of_eq (asz _ _).symm) (Nat.le_refl _)
      have o5 : OwnH KT 9 w5 (w4.heap.size) w5.heap.size m.sinks _ := O5.out.h
      have o6 : OwnH KT 9 w6 (w5.heap.size) w6.heap.size m.hatches _ := O6.out.h
      have o7 : OwnH KI 3 w7 (w6.heap.size) w7.heap.size m.threads _ := O7.out.h
      have hrow : w7.heap[w3.heap.size]? = some (.cells #[.slice none 0 0, .slice none 0 0, .slice none 0 0, .slice none 0 0, .slice none 0 0, .slice none 0 0, .slice none 0 0, .slice none 0 0, .slice none 0 0] 27 (0, 0)) := below_row D7.out (below_row D6.out (below_row D5.out (below_row D4.out (heap_alloc_new _ _))))
      have hfin := cm_fin (B := g + 2) (X := X) (m := m) o0 ⟨by omega, by omega, by omega⟩ o1 ⟨by omega, by omega, by omega, by omega⟩ o2 ⟨by omega, by omega, by omega, by omega⟩ o3 ⟨by omega, by omega, by omega, by omega⟩ o4 ⟨by omega, by omega, by omega, by omega⟩ o5 ⟨by omega, by omega, by omega, by omega⟩ o6 ⟨by omega, by omega, by omega, by omega⟩ o7 ⟨by omega, by omega, by omega, by omega⟩ (fun b hb => D1.out.block b hb) (by omega) (fun b hb => D2.out.block b hb) (by omega) (fun b hb => D3.out.block b hb) (by omega) (fun b hb => (D4.out.block b (by rw [asz]; omega)).trans (Below.heap_alloc _ _ b hb)) (by omega) (fun b hb => D5.out.block b hb) (by omega) (fun b hb => D6.out.block b hb) (by omega) (fun b hb => D7.out.block b hb) (by omega) (fun _ _ => rfl) (Nat.le_refl _) (by omega) hrow HB7.out.2
      rw [← nine_set hrow] at hfin
      exact ⟨_, _, rfl, Lib.hid hfin⟩
    case rel =>
      have hxs := HXS.out
      have y0 : X.heap.size ≤ w0.heap.size := D0.out.size
      have y1 : w0.heap.size ≤ w1.heap.size := D1.out.size
      have y2 : w1.heap.size ≤ w2.heap.size := D2.out.size
      have y3 := D3.out.size
      rw [asz] at y3
      have y4 : w3.heap.size ≤ w4.heap.size := D4.out.size
      have y5 : w4.heap.size ≤ w5.heap.size := D5.out.size
      have y6 : w5.heap.size ≤ w6.heap.size := D6.out.size
      have y7 : w6.heap.size ≤ w7.heap.size := D7.out.size
      have o0 : OwnH KS 46 w0 (X.heap.size) w0.heap.size m.globals _ := O0.out.h
      have o1 : OwnH KS 46 w1 (w0.heap.size) w1.heap.size m.structs _ := O1.out.h
      have o2 : OwnH KS 46 w2 (w1.heap.size) w2.heap.size m.chans _ := O2.out.h
      have o3 : OwnH KT 9 w3 (w2.heap.size + 1) w3.heap.size m.locks _ := O3.out.h.mono (Nat.le_of_eq (asz _ _).symm) (Nat.le_refl _)
      have o4 : OwnH KT 9 w4 (w3.heap.size) w4.heap.size m.inputs _ := O4.out.h
      have o5 : OwnH KT 9 w5 (w4.heap.size) w5.heap.size m.sinks _ := O5.out.h
      have o6 : OwnH KT 9 w6 (w5.heap.size) w6.heap.size m.hatches _ := O6.out.h
      have o7 : OwnH KI 3 w7 (w6.heap.size) w7.heap.size m.threads _ := O7.out.h
      have hrow : w7.heap[w2.heap.size]? = some (.cells #[.slice none 0 0, .slice none 0 0, .slice none 0 0, .slice none 0 0, .slice none 0 0, .slice none 0 0, .slice none 0 0, .slice none 0 0, .slice none 0 0] 27 (0, 0)) := below_row D7.out (below_row D6.out (below_row D5.out (below_row D4.out (below_row D3.out (heap_alloc_new _ _)))))
      have hfin := cm_fin (B := g + 2) (X := X) (m := m) o0 ⟨by omega, by omega, by omega⟩ o1 ⟨by omega, by omega, by omega, by omega⟩ o2 ⟨by omega, by omega, by omega, by omega⟩ o3 ⟨by omega, by omega, by omega, by omega⟩ o4 ⟨by omega, by omega, by omega, by omega⟩ o5 ⟨by omega, by omega, by omega, by omega⟩ o6 ⟨by omega, by omega, by omega, by omega⟩ o7 ⟨by omega, by omega, by omega, by omega⟩ (fun b hb => D1.out.block b hb) (by omega) (fun b hb => D2.out.block b hb) (by omega) (fun b hb => (D3.out.block b (by rw [asz]; omega)).trans (Below.heap_alloc _ _ b hb)) (by omega) (fun b hb => D4.out.block b hb) (by omega) (fun b hb => D5.out.block b hb) (by omega) (fun b hb => D6.out.block b hb) (by omega) (fun b hb => D7.out.block b hb) (by omega) (fun _ _ => rfl) (Nat.le_refl _) (by omega) hrow HB7.out.2
      rw [← nine_set hrow] at hfin
      exact ⟨_, _, rfl, Lib.hid hfin⟩
    case rel =>
      have hxs := HXS.out
      have y0 : X.heap.size ≤ w0.heap.size := D0.out.size
      have y1 : w0.heap.size ≤ w1.heap.size := D1.out.size
      have y2 := D2.out.size
      rw [asz] at y2
      have y3 : w2.heap.size ≤ w3.heap.size := D3.out.size
      have y4 : w3.heap.size ≤ w4.heap.size := D4.out.size
      have y5 : w4.heap.size ≤ w5.heap.size := D5.out.size
      have y6 : w5.heap.size ≤ w6.heap.size := D6.out.size
      have y7 : w6.heap.size ≤ w7.heap.size := D7.out.size
      have o0 : OwnH KS 46 w0 (X.heap.size) w0.heap.size m.globals _ := O0.out.h
      have o1 : OwnH KS 46 w1 (w0.heap.size) w1.heap.size m.structs _ := O1.out.h
      have o2 : OwnH KS 46 w2 (w1.heap.size + 1) w2.heap.size m.chans _ := O2.out.h.mono (Nat.le_of_eq (asz _ _).symm) (Nat.le_refl _)
      have o3 : OwnH KT 9 w3 (w2.heap.size) w3.heap.size m.locks _ := O3.out.h
      have o4 : OwnH KT 9 w4 (w3.heap.size) w4.heap.size m.inputs _ := O4.out.h
      have o5 : OwnH KT 9 w5 (w4.heap.size) w5.heap.size m.sinks _ := O5.out.h
      have o6 : OwnH KT 9 w6 (w5.heap.size) w6.heap.size m.hatches _ := O6.out.h
      have o7 : OwnH KI 3 w7 (w6.heap.size) w7.heap.size m.threads _ := O7.out.h
      have hrow : w7.heap[w1.heap.size]? = some (.cells #[.slice none 0 0, .slice none 0 0, .slice none 0 0, .slice none 0 0, .slice none 0 0, .slice none 0 0, .slice none 0 0, .slice none 0 0, .slice none 0 0] 27 (0, 0)) := below_row D7.out (below_row D6.out (below_row D5.out (below_row D4.out (below_row D3.out (below_row D2.out (heap_alloc_new _ _))))))
      have hfin := cm_fin (B := g + 2) (X := X) (m := m) o0 ⟨by omega, by omega, by omega⟩ o1 ⟨by omega, by omega, by omega, by omega⟩ o2 ⟨by omega, by omega, by omega, by omega⟩ o3 ⟨by omega, by omega, by omega, by omega⟩ o4 ⟨by omega, by omega, by omega, by omega⟩ o5 ⟨by omega, by omega, by omega, by omega⟩ o6 ⟨by omega, by omega, by omega, by omega⟩ o7 ⟨by omega, by omega, by omega, by omega⟩ (fun b hb => D1.out.block b hb) (by omega) (fun b hb => (D2.out.block b (by rw [asz]; omega)).trans (Below.heap_alloc _ _ b hb)) (by omega) (fun b hb => D3.out.block b hb) (by omega) (fun b hb => D4.out.block b hb) (by omega) (fun b hb => D5.out.block b hb) (by omega) (fun b hb => D6.out.block b hb) (by omega) (fun b hb => D7.out.block b hb) (by omega) (fun _ _ => rfl) (Nat.le_refl _) (by omega) hrow HB7.out.2
      rw [← nine_set hrow] at hfin
      exact ⟨_, _, rfl, Lib.hid hfin⟩
    case rel =>
      have hxs := HXS.out
      have y0 : X.heap.size ≤ w0.heap.size := D0.out.size
      have y1 := D1.out.size
      rw [asz] at y1
      have y2 : w1.heap.size ≤ w2.heap.size := D2.out.size
      have y3 : w2.heap.size ≤ w3.heap.size := D3.out.size
      have y4 : w3.heap.size ≤ w4.heap.size := D4.out.size
      have y5 : w4.heap.size ≤ w5.heap.size := D5.out.size
      have y6 : w5.heap.size ≤ w6.heap.size := D6.out.size
      have y7 : w6.heap.size ≤ w7.heap.size := D7.out.size
      have o0 : OwnH KS 46 w0 (X.heap.size) w0.heap.size m.globals _ := O0.out.h
      have o1 : OwnH KS 46 w1 (w0.heap.size + 1) w1.heap.size m.structs _ := O1.out.h.mono (Nat.le_of_eq (asz _ _).symm) (Nat.le_refl _)
      have o2 : OwnH KS 46 w2 (w1.heap.size) w2.heap.size m.chans _ := O2.out.h
      have o3 : OwnH KT 9 w3 (w2.heap.size) w3.heap.size m.locks _ := O3.out.h
      have o4 : OwnH KT 9 w4 (w3.heap.size) w4.heap.size m.inputs _ := O4.out.h
      have o5 : OwnH KT 9 w5 (w4.heap.size) w5.heap.size m.sinks _ := O5.out.h
      have o6 : OwnH KT 9 w6 (w5.heap.size) w6.heap.size m.hatches _ := O6.out.h
      have o7 : OwnH KI 3 w7 (w6.heap.size) w7.heap.size m.threads _ := O7.out.h
      have hrow : w7.heap[w0.heap.size]? = some (.cells #[.slice none 0 0, .slice none 0 0, .slice none 0 0, .slice none 0 0, .slice none 0 0, .slice none 0 0, .slice none 0 0, .slice none 0 0, .slice none 0 0] 27 (0, 0)) := below_row D7.out (below_row D6.out (below_row D5.out (below_row D4.out (below_row D3.out (below_row D2.out (below_row D1.out (heap_alloc_new _ _)))))))
      have hfin := cm_fin (B := g + 2) (X := X) (m := m) o0 ⟨by omega, by omega, by omega⟩ o1 ⟨by omega, by omega, by omega, by omega⟩ o2 ⟨by omega, by omega, by omega, by omega⟩ o3 ⟨by omega, by omega, by omega, by omega⟩ o4 ⟨by omega, by omega, by omega, by omega⟩ o5 ⟨by omega, by omega, by omega, by omega⟩ o6 ⟨by omega, by omega, by omega, by omega⟩ o7 ⟨by omega, by omega, by omega, by omega⟩ (fun b hb => (D1.out.block b (by rw [asz]; omega)).trans (Below.heap_alloc _ _ b hb)) (by omega) (fun b hb => D2.out.block b hb) (by omega) (fun b hb => D3.out.block b hb) (by omega) (fun b hb => D4.out.block b hb) (by omega) (fun b hb => D5.out.block b hb) (by omega) (fun b hb => D6.out.block b hb) (by omega) (fun b hb => D7.out.block b hb) (by omega) (fun _ _ => rfl) (Nat.le_refl _) (by omega) hrow HB7.out.2
      rw [← nine_set hrow] at hfin
      exact ⟨_, _, rfl, Lib.hid hfin⟩
    case rel =>
      have hxs := HXS.out
      have y0 : (X.alloc (.cells #[.slice none 0 0, .slice none 0 0, .slice none 0 0, .slice none 0 0, .slice none 0 0, .slice none 0 0, .slice none 0 0, .slice none 0 0, .slice none 0 0] 27)).heap.size ≤ w0.heap.size := D0.out.size
      rw [asz] at y0
      have e0 : (X.alloc (.cells #[.slice none 0 0, .slice none 0 0, .slice none 0 0, .slice none 0 0, .slice none 0 0, .slice none 0 0, .slice none 0 0, .slice none 0 0, .slice none 0 0] 27)).heap.size = X.heap.size + 1 := asz _ _
      have y1 : w0.heap.size ≤ w1.heap.size := D1.out.size
      have y2 : w1.heap.size ≤ w2.heap.size := D2.out.size
      have y3 : w2.heap.size ≤ w3.heap.size := D3.out.size
      have y4 : w3.heap.size ≤ w4.heap.size := D4.out.size
      have y5 : w4.heap.size ≤ w5.heap.size := D5.out.size
      have y6 : w5.heap.size ≤ w6.heap.size := D6.out.size
      have y7 : w6.heap.size ≤ w7.heap.size := D7.out.size
      have o0 : OwnH KS 46 w0 (X.heap.size + 1) w0.heap.size m.globals _ := O0.out.h.mono (Nat.le_of_eq e0.symm) (Nat.le_refl _)
      have o1 : OwnH KS 46 w1 (w0.heap.size) w1.heap.size m.structs _ := O1.out.h
      have o2 : OwnH KS 46 w2 (w1.heap.size) w2.heap.size m.chans _ := O2.out.h
      have o3 : OwnH KT 9 w3 (w2.heap.size) w3.heap.size m.locks _ := O3.out.h
      have o4 : OwnH KT 9 w4 (w3.heap.size) w4.heap.size m.inputs _ := O4.out.h
      have o5 : OwnH KT 9 w5 (w4.heap.size) w5.heap.size m.sinks _ := O5.out.h
      have o6 : OwnH KT 9 w6 (w5.heap.size) w6.heap.size m.hatches _ := O6.out.h
      have o7 : OwnH KI 3 w7 (w6.heap.size) w7.heap.size m.threads _ := O7.out.h
      have hrow : w7.heap[X.heap.size]? = some (.cells #[.slice none 0 0, .slice none 0 0, .slice none 0 0, .slice none 0 0, .slice none 0 0, .slice none 0 0, .slice none 0 0, .slice none 0 0, .slice none 0 0] 27 (0, 0)) := below_row D7.out (below_row D6.out (below_row D5.out (below_row D4.out (below_row D3.out (below_row D2.out (below_row D1.out (below_row D0.out (heap_alloc_new _ _))))))))
      have hfin := cm_fin (B := g + 2) (X := X) (m := m) o0 ⟨by omega, by omega, by omega⟩ o1 ⟨by omega, by omega, by omega, by omega⟩ o2 ⟨by omega, by omega, by omega, by omega⟩ o3 ⟨by omega, by omega, by omega, by omega⟩ o4 ⟨by omega, by omega, by omega, by omega⟩ o5 ⟨by omega, by omega, by omega, by omega⟩ o6 ⟨by omega, by omega, by omega, by omega⟩ o7 ⟨by omega, by omega, by omega, by omega⟩ (fun b hb => D1.out.block b hb) (by omega) (fun b hb => D2.out.block b hb) (by omega) (fun b hb => D3.out.block b hb) (by omega) (fun b hb => D4.out.block b hb) (by omega) (fun b hb => D5.out.block b hb) (by omega) (fun b hb => D6.out.block b hb) (by omega) (fun b hb => D7.out.block b hb) (by omega) (fun _ _ => rfl) (Nat.le_refl _) (by omega) hrow HB7.out.2
      rw [← nine_set hrow] at hfin
      exact ⟨_, _, rfl, Lib.hid hfin⟩
  case rest =>
    obtain ⟨gp, vv, rfl, HM⟩ := hcut
    obtain ⟨lo8, hi8, h8⟩ := HM.out.own
    have H8 := Lib.hid h8
    clear h8
    obtain ⟨A7, c7, e7, hc7, hM7⟩ := HIN.out.f.form
    obtain ⟨n7, hn7⟩ : ∃ n, n = m.funcs.length := ⟨_, rfl⟩
    rw [← hn7] at e7 hc7 hM7
    have hlo := HM.out.lo
    have hlt := HM.out.lt
    have hcl : gp < wc.heap.size := hlt
    obtain ⟨H, hH⟩ : ∃ H, H = wc.heap.size := ⟨_, rfl⟩
    rw [← hH] at hlt
    have h0 : MoBlk wc gp { vv with f := .slice none 0 0 } := by have := HM.out.row; rw [← HM.out.f]; exact this
    have HN7 := Lib.hid hn7
    have HE7 := Lib.hid e7
    have HH := Lib.hid hH
    have H0 := Lib.hid h0
    clear hn7 e7 hH h0 hcl p0 p1 p2 p3 p4 p5 p6 p8 KSS C0 C1 C2 C3 C4 C5 C6 C7
    go_wp2
    go_loopw [4] (fun i wr => ∃ (j : Nat) (u : Value) (T : List FnT), j ≤ n7 ∧ i = .int .i64 j ∧ Hid (MoBlk wr gp { vv with f := u }) ∧ Hid (OwnL KFt 39 wr H T u) ∧ Hid (T.map FnT.fn = m.funcs.take j ∧ ApF T ∧ ∀ t ∈ T, t.hi ≤ wr.heap.size) ∧ Hid (∀ b, b < H → b ≠ gp → wr.heap[b]? = wc.heap[b]?) ∧ Hid (Below (g + 2) X wr) ∧ H ≤ wr.heap.size) (fun i _ => n7 - (intOf i).toNat)
    case atStart => exact ⟨0, _, [], Nat.zero_le _, rfl, H0, Lib.hid (OwnL.nil _ _ _), Lib.hid ⟨rfl, List.Pairwise.nil, by simp⟩, Lib.hid (fun _ _ _ => rfl), Lib.hid HM.out.bel, by rw [HH.out]; exact Nat.le_refl _⟩
    case round =>
      obtain ⟨wo, rfl⟩ : ∃ wo : World, wo = wr := ⟨_, rfl⟩
      obtain ⟨j, u, T, hj, rfl, HMB, HO, HT3, HK, HBL, hws⟩ := hrel
      have hrow := HX1.out.below HBL.out (by omega)
      have k7 : wo.cell? ⟨g, 7, none⟩ = some (.slice A7 n7 c7) := by rw [← HE7.out]; exact hrow.cell 7
      obtain ⟨A3, c3, eu, -⟩ := HO.out.lies.form
      have htl : T.length ≤ 1000000 := by
        have h1 := congrArg List.length HT3.out.1
        rw [List.length_map, List.length_take] at h1
        have := HL.out.1; omega
      subst eu
      by_cases hlt2 : j < n7
      · have hje : j < m.funcs.length := by rw [← HN7.out]; exact hlt2
        have hfl : Lies KF w (· < w.heap.size) m.funcs (.slice A7 n7 c7) := by rw [← HE7.out]; exact HIN.out.f
        obtain ⟨b, off, cv, rfl, hbS, hat, hcode, hin⟩ := hfl.fn j hje
        have hbg : b < g := by rw [HG.out]; exact hbS
        have hbw : Below g w wo := HXB.out.trans (HBL.out.mono (by omega))
        obtain ⟨hlen, hargs⟩ := HL.out.2 _ (List.getElem_mem hje)
        have htk : m.funcs.take (j + 1) = T.map FnT.fn ++ [m.funcs[j]] := by rw [List.take_add_one, List.getElem?_eq_getElem hje, Option.toList_some, HT3.out.1]
        obtain ⟨Y, hY⟩ : ∃ Y, Y = m.funcs[j] := ⟨_, rfl⟩
        rw [← hY] at hat hcode hin hlen hargs htk
        obtain ⟨A5, c5, rfl, l5, b5⟩ := hcode.form
        obtain ⟨n5, hn5⟩ : ∃ n, n = Y.code.length := ⟨_, rfl⟩
        rw [← hn5] at hat hcode l5 b5
        obtain ⟨r0, r1, r2, r3, r4⟩ := hat.keep (hbw.block b hbg)
        obtain ⟨X1, hX1⟩ : ∃ X1 : World, X1 = wo.alloc (.cells #[.string (bs Y.name), .int .i64 Y.params, .int .i64 Y.regs, .int .i64 Y.result, .slice A5 n5 c5] 39) := ⟨_, rfl⟩
        have hx1 : FnBlk X1 wo.heap.size Y (.slice A5 n5 c5) := by rw [hX1]; exact FnBlk.new wo Y _
        have hx1s : X1.heap.size = wo.heap.size + 1 := by rw [hX1, asz]
        have hx1b : Below wo.heap.size wo X1 := by rw [hX1]; exact (Below.refl _ wo).alloc (Nat.le_refl _) _
        have hgb : ∀ b, b < w.heap.size → X1.heap[b]? = w.heap[b]? := fun b hb => by
          rw [← HG.out] at hb
          exact (hx1b.block b (by omega)).trans (hbw.block b hb)
        have hcall := copyCode_any (hcode.keep hgb (fun _ h => h)) hlen hargs (fun b hb => by rw [← HG.out] at hb; omega)
        have HX1E := Lib.hid hX1
        have HXF := Lib.hid hx1
        have HX1S := Lib.hid hx1s
        have HX1B := Lib.hid hx1b
        have HCALL := Lib.hid hcall
        have HTK := Lib.hid htk
        have HINF := Lib.hid hin
        clear hX1 hx1 hx1s hx1b hcall htk hin hat hcode hgb hn5 hY hargs hlen hrow hfl
        go_wp2_with fail
        rw [← HX1E.out]
        refine HCALL.out.mono ?_
        rintro e w5 ⟨v5, ts5, rfl, ho5, ht5, hap5, hb5⟩
        obtain ⟨A6, c6, rfl, -⟩ := ho5.lies.form
        obtain ⟨n6, hn6⟩ : ∃ n, n = ts5.length := ⟨_, rfl⟩
        rw [← hn6] at ho5 ⊢
        have hs1 := HX1S.out
        have hs5 := hb5.size
        have e5 := HXF.out.below hb5 (by omega)
        obtain ⟨q0, q1, q2, q3, q4⟩ := e5.all
        have f4 := e5.fr 4
        have hw5 : Below wo.heap.size wo w5 := HX1B.out.trans (hb5.mono (by omega))
        have m5 := HMB.out.below hw5 (by omega)
        have m7 : w5.cell? ⟨gp, 7, none⟩ = some (.slice A3 T.length c3) := m5.cell 7
        obtain ⟨X6, hX6⟩ : ∃ X6 : World, X6 = w5.setCell ⟨wo.heap.size, 4, none⟩ (.slice A6 n6 c6) := ⟨_, rfl⟩
        have hx6s : X6.heap.size = w5.heap.size := by rw [hX6]; simp
        have hx6k : ∀ b, b ≠ wo.heap.size → X6.heap[b]? = w5.heap[b]? := fun b hb => by rw [hX6]; exact Below.heap_setCell _ _ _ b hb
        have hw6 : Below wo.heap.size wo X6 := by rw [hX6]; exact hw5.setCell (Nat.le_refl _) _
        obtain ⟨X7, hX7⟩ : ∃ X7 : World, X7 = X6.alloc (.cells #[.string (bs Y.name), .int .i64 Y.params, .int .i64 Y.regs, .int .i64 Y.result, .slice A6 n6 c6] 39) := ⟨_, rfl⟩
        have hx7s : X7.heap.size = w5.heap.size + 1 := by rw [hX7, asz, hx6s]
        have hx67 : Below X6.heap.size X6 X7 := by rw [hX7]; exact (Below.refl _ _).alloc (Nat.le_refl _) _
        have hx7 : Below wo.heap.size wo X7 := hw6.trans (hx67.mono (by omega))
        have hk7 : ∀ b, wo.heap.size + 1 ≤ b ∧ b < w5.heap.size → X7.heap[b]? = w5.heap[b]? := fun b hb => (hx67.block b (by omega)).trans (hx6k b (by omega))
        have ho7 : OwnL KFt 39 X7 H T (.slice A3 T.length c3) := HO.out.below hx7
        have hnew : ∀ q y, (fnRow Y (.slice A6 n6 c6))[q]? = some y → X7.cell? ((⟨w5.heap.size, 0, none⟩ : Addr).add q) = some y := fun q y hq => by
          rw [hX7, ← hx6s, add_none, Nat.zero_add, cell_of_row _ _ q _ _ (0, 0) (heap_alloc_new X6 _)]
          rw [← hq, ← fnRow_arr]
          simp
        have hun : KFt.Q X7 (fun b => H ≤ b ∧ b < X7.heap.size ∧ (Value.slice A3 T.length c3).ownBlock ≠ some b) ⟨Y, ts5, wo.heap.size + 1, w5.heap.size⟩ (fnRow Y (.slice A6 n6 c6)) := by
          refine ⟨_, rfl, ?_, ht5, hap5, fun b hb hb2 => ?_, HINF.out⟩
          · rw [HX1S.out] at ho5
            exact ho5.keep (fun b hb hb2 => hk7 b ⟨hb, hb2⟩)
          · dsimp only at hb hb2
            refine ⟨by omega, by omega, fun e => ?_⟩
            have := (HO.out.lt e).2
            omega
        have hg7 : H ≤ X7.heap.size := by omega
        have hw7s : w5.heap.size ≤ X7.heap.size ∧ wo.heap.size ≤ X7.heap.size := by omega
        have mm7 : MoBlk X7 gp { vv with f := .slice A3 T.length c3 } := HMB.out.below hx7 (by omega)
        rw [hX7, hX6] at ho7 hnew hun hx7 hg7 mm7 hw7s
        have HO7 := Lib.hid ho7
        have HNEW := Lib.hid hnew
        have HUN := Lib.hid hun
        have HX7 := Lib.hid hx7
        have HM7 := Lib.hid mm7
        have HLEN6 := Lib.hid htl
        have HG7 := Lib.hid hg7
        have HW7S := Lib.hid hw7s
        clear r0 r1 r2 r3 r4 e5 hx6s hx6k hw5 hw6 hx67 hx7 hk7 ho7 hnew hun htl hg7 hw7s ho5 ht5 hap5 hb5 hn6 hx7s mm7 m5 hX7 X7 hX6 X6 k7
        go_wp2_with (first
          | (at_builtin; go_loud (refine wpList_append_one (E := KFt) rfl _ _ _ _ rfl Tryd.underlying24 _ _ info_fn rfl (by decide) H T _ rfl HO7.out HLEN6.out ⟨w5.heap.size, 0, none⟩ 1 ⟨Y, ts5, wo.heap.size + 1, w5.heap.size⟩ (fnRow Y (.slice A6 n6 c6)) rfl HNEW.out HUN.out HG7.out ?_; go_loud (intro v8 w8 ho8 hb8; obtain ⟨A8, c8, rfl, -⟩ := ho8.lies.form; have mb8 := HM7.out.below hb8 hlt; have g7 := mb8.cell 7; have gf7 := mb8.fr 7))))
        go_roundw
        case rel =>
          rw [List.length_append] at ho8
          have hbX := (HX7.out.mono (show g + 2 ≤ wo.heap.size by omega)).trans (hb8.mono (show g + 2 ≤ H by omega))
          refine ⟨j + 1, _, T ++ [⟨Y, ts5, wo.heap.size + 1, w5.heap.size⟩], by omega, by go_num, Lib.hid (mb8.set7 _), Lib.hid (ho8.set hlt _), Lib.hid ⟨by rw [HTK.out, List.map_append]; rfl, apF_more HT3.out.2.1 HT3.out.2.2 (by show wo.heap.size ≤ wo.heap.size + 1; omega), fun t ht => by
            have h8 := hb8.size
            have h9 := HW7S.out
            rw [csz]
            rcases List.mem_append.1 ht with ht | ht
            · have h0 := HT3.out.2.2 t ht
              omega
            · simp only [List.mem_singleton] at ht
              subst ht
              show w5.heap.size ≤ _
              omega⟩, Lib.hid (fun b hb hne => ?_), Lib.hid ((HBL.out.trans hbX).setCell hlo _), Nat.le_trans HG7.out (Nat.le_trans hb8.size (Nat.le_of_eq (csz _ _ _).symm))⟩
          exact (Below.heap_setCell _ _ _ b hne).trans ((hb8.block b hb).trans ((HX7.out.block b (by omega)).trans (HK.out b hb hne)))
        case measure => simp [intOf]; omega
      · have hall : m.funcs.take j = m.funcs := List.take_of_length_le (by rw [← HN7.out]; omega)
        have HTA := Lib.hid (HT3.out.1.trans hall)
        obtain ⟨⟨b0, d0, e0, -, -⟩, ⟨b1, d1, e1, -, -⟩, ⟨b2, d2, e2, -, -⟩, ⟨b3, d3, e3, -, -⟩, ⟨b4, d4, e4, -, -⟩, ⟨b5, d5, e5, -, -⟩, ⟨b6, d6, e6, -, -⟩, -, ⟨b8, d8, e8, -, -⟩⟩ := HM.out.is_.form
        dsimp only at e0 e1 e2 e3 e4 e5 e6 e8
        obtain ⟨p0, p1, p2, p3, p4, p5, p6, p7, p8⟩ := HMB.out.all
        dsimp only at p0 p1 p2 p3 p4 p5 p6 p7 p8
        rw [e0] at p0
        rw [e1] at p1
        rw [e2] at p2
        rw [e3] at p3
        rw [e4] at p4
        rw [e5] at p5
        rw [e6] at p6
        rw [e8] at p8
        have hrow2 := (HBL.out.block (g + 1) (by omega)).trans HX2.out
        obtain ⟨z0, z1, z2, z3, z4, z5, z6, z7, z8, y0, y1, y2, y3, y4, y5, y6, y7, y8⟩ := nine_cells hrow2
        have HR2 := Lib.hid hrow2
        have E := Lib.hid (And.intro e0 (And.intro e1 (And.intro e2 (And.intro e3 (And.intro e4 (And.intro e5 (And.intro e6 e8)))))))
        clear hall hrow2 e0 e1 e2 e3 e4 e5 e6 e8
        go_wp2
        rw [nine_set HR2.out]
        obtain ⟨e0, e1, e2, e3, e4, e5, e6, e8⟩ := E.out
        have hbW : Below (g + 1) X (wo.setRow (g + 1) #[.slice b0 m.globals.length d0, .slice b1 m.structs.length d1, .slice b2 m.chans.length d2, .slice b3 m.locks.length d3, .slice b4 m.inputs.length d4, .slice b5 m.sinks.length d5, .slice b6 m.hatches.length d6, .slice A3 T.length c3, .slice b8 m.threads.length d8]) :=
          ⟨HBL.out.os, HBL.out.tape, HBL.out.output, by rw [setRow_size]; exact HBL.out.size, fun b hb => (setRow_other _ _ _ _ (by omega)).trans (HBL.out.block b (by omega))⟩
        have hs : ∀ j u, (#[.slice b0 m.globals.length d0, .slice b1 m.structs.length d1, .slice b2 m.chans.length d2, .slice b3 m.locks.length d3, .slice b4 m.inputs.length d4, .slice b5 m.sinks.length d5, .slice b6 m.hatches.length d6, .slice A3 T.length c3, .slice b8 m.threads.length d8] : Array Value)[j]? = some u → (wo.setRow (g + 1) #[.slice b0 m.globals.length d0, .slice b1 m.structs.length d1, .slice b2 m.chans.length d2, .slice b3 m.locks.length d3, .slice b4 m.inputs.length d4, .slice b5 m.sinks.length d5, .slice b6 m.hatches.length d6, .slice A3 T.length c3, .slice b8 m.threads.length d8]).cell? ⟨g + 1, j, none⟩ = some u := fun j u hj => (cell_setRow_same _ _ j _ _ _ _ HR2.out).trans hj
        have hk : ∀ b, b ≠ g + 1 → (wo.setRow (g + 1) #[.slice b0 m.globals.length d0, .slice b1 m.structs.length d1, .slice b2 m.chans.length d2, .slice b3 m.locks.length d3, .slice b4 m.inputs.length d4, .slice b5 m.sinks.length d5, .slice b6 m.hatches.length d6, .slice A3 T.length c3, .slice b8 m.threads.length d8]).heap[b]? = wo.heap[b]? := fun b hb => setRow_other _ _ _ _ hb
        have hz : (wo.setRow (g + 1) #[.slice b0 m.globals.length d0, .slice b1 m.structs.length d1, .slice b2 m.chans.length d2, .slice b3 m.locks.length d3, .slice b4 m.inputs.length d4, .slice b5 m.sinks.length d5, .slice b6 m.hatches.length d6, .slice A3 T.length c3, .slice b8 m.threads.length d8]).heap.size = wo.heap.size := setRow_size _ _ _
        generalize wo.setRow (g + 1) #[.slice b0 m.globals.length d0, .slice b1 m.structs.length d1, .slice b2 m.chans.length d2, .slice b3 m.locks.length d3, .slice b4 m.inputs.length d4, .slice b5 m.sinks.length d5, .slice b6 m.hatches.length d6, .slice A3 T.length c3, .slice b8 m.threads.length d8] = W at hbW hs hk hz ⊢
        have s0 := hs 0 _ rfl
        have s1 := hs 1 _ rfl
        have s2 := hs 2 _ rfl
        have s3 := hs 3 _ rfl
        have s4 := hs 4 _ rfl
        have s5 := hs 5 _ rfl
        have s6 := hs 6 _ rfl
        have s7 := hs 7 _ rfl
        have s8 := hs 8 _ rfl
        have hwH := HH.out
        have hgw := HG.out
        refine bodyPost_ret (v := .agg #[.slice b0 m.globals.length d0, .slice b1 m.structs.length d1, .slice b2 m.chans.length d2, .slice b3 m.locks.length d3, .slice b4 m.inputs.length d4, .slice b5 m.sinks.length d5, .slice b6 m.hatches.length d6, .slice A3 T.length c3, .slice b8 m.threads.length d8]) (by simp [results, Tryd.results10, go_sem, s0, s1, s2, s3, s4, s5, s6, s7, s8]) rfl ?_
        have hkk : ∀ b, g + 2 ≤ b ∧ b < wc.heap.size ∧ b ≠ gp → W.heap[b]? = wc.heap[b]? := fun b hb => (hk b (by omega)).trans (HK.out b (by omega) hb.2.2)
        obtain ⟨hO8, hlo8, hhi8, hgp8⟩ := H8.out
        have hal := hO8.all
        have h8W : Own8 W lo8 hi8 m { vv with f := .slice A3 T.length c3 } := (hO8.keep (fun k hk b hb hb2 => hkk b (by have h1 := hal k hk; have h2 := hgp8 k hk; omega))).setf _
        refine ⟨⟨vv.g, vv.s, vv.c, vv.l, vv.i, vv.o, vv.h, .slice A3 T.length c3, vv.t⟩, lo8, hi8, H, T, by rw [e0, e1, e2, e3, e4, e5, e6, e8]; rfl, ⟨h8W, by omega, by omega, HTA.out, HT3.out.2.1, ?_⟩, by omega, ?_⟩
        · exact HO.out.keep (by omega) (fun b hb _ => hk b (by omega))
        · rw [← hgw]
          exact HXB.out.trans (hbW.mono (by omega))

end Go.Proofs.YtgohnlcgidmlfaaDoor
