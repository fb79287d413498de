/- The document's own queue: New; CopyInts. -/
import Derived.Test.YtadmacplpmahaaaIad
set_option linter.unusedVariables false
set_option linter.unusedSimpArgs false
namespace Go.Proofs.Ytadmacplpmahaaa
open Go.RowKit

theorem two_new (w : World) (o : Obj) (cs : Array Value) (t : TypeId) : ((w.alloc o).alloc (.cells cs t)).heap[w.heap.size + 1]? = some (.cells cs t (0, 0)) := by
  have := heap_alloc_new (w.alloc o) (.cells cs t)
  rw [World.size_alloc] at this
  exact this
theorem two_fin {w0 w : World} {z : Nat} {o0 o1 : Value} {t : TypeId} (hrow : w.heap[z]? = some (.cells #[o0, o1] t (0, 0))) (hz : w0.heap.size ≤ z) (hb : Below w0.heap.size w0 w) (u0 u1 : Value) {W : World}
    (hW : (w.setCell ⟨z, 0, none⟩ u0).setCell ⟨z, 1, none⟩ u1 = W) : Below w0.heap.size w0 W ∧ W.cell? ⟨z, 0, none⟩ = some u0 ∧ W.cell? ⟨z, 1, none⟩ = some u1 ∧ (∀ b, b ≠ z → W.heap[b]? = w.heap[b]?) ∧ W.heap.size = w.heap.size := by
  have e : (w.setCell ⟨z, 0, none⟩ u0).setCell ⟨z, 1, none⟩ u1 = w.setRow z #[u0, u1] := by
    have e : ∀ (c : Array Value) (i : Nat) (u : Value), ((w.setRow z c).setCell ⟨z, i, none⟩ u) = w.setRow z (c.setIfInBounds i u) := fun c i u => by
      rw [setCell_eq_setRow (w.setRow z c) z i c _ _ u (setRow_heap w z _ c _ _ hrow), setRow_setRow]
    rw [setCell_eq_setRow w z 0 _ _ _ u0 hrow, e]
    rfl
  rw [e] at hW
  subst hW
  have h1 := setRow_heap w z _ #[u0, u1] _ _ hrow
  refine ⟨⟨hb.os, hb.tape, hb.output, by simpa using hb.size, fun b hlt => (setRow_other w z b _ (by omega)).trans (hb.block b hlt)⟩, ?_, ?_, fun b hb => setRow_other w z b _ hb, by simp⟩
  · rw [cell_of_row _ _ 0 _ _ (0, 0) h1]; rfl
  · rw [cell_of_row _ _ 1 _ _ (0, 0) h1]; rfl

/-- append of a whole list to an empty one -/
theorem wpList_cp {w : World} {ops : Array Oper} {rest : List Oper} {o : Oper} {act : Act} {Q : Exit → Act → World → Prop} (hgd : o.guard = none) (s x : Operand)
    (ho : o.op = .call { callee := .builtin .append, args := #[s, x], argTypes := #[22, 22] })
    (base g0 c0 : Nat) (hs : act.eval s = .slice (some ⟨g0, 0, none⟩) 0 c0) (hown : OwnN w base (.slice (some ⟨g0, 0, none⟩) 0 c0) []) {xs : List Int} {v : Value} (hx : act.eval x = v) (hl : LieN w v xs) (hn : xs.length ≤ 1000000) (hbase : base ≤ w.heap.size)
    (h : ∀ v' w', OwnN w' base v' xs → w.grownBy w' (some g0) → wpList Try.prog ops Q rest (act.put o.dst v') w') : wpList Try.prog ops Q (o :: rest) act w := by
  obtain ⟨i0, hi0, hz0, hz1, hz2⟩ := info_parts info_i
  obtain ⟨A, c, rfl, hc, hM, hA⟩ := hl
  cases A with
  | none =>
    have h0 : xs = [] := by
      cases xs with
      | nil => rfl
      | cons y ys =>
        obtain ⟨b, off, e, -⟩ := hA 0 (by simp)
        cases e
    subst h0
    have hr : (Builtin.append_ #[22, 22] o.type #[.slice (some ⟨g0, 0, none⟩) 0 c0, .slice none 0 c]).run Try.prog w = .ok (.slice (some ⟨g0, 0, none⟩) 0 c0) w := by
      simp [Builtin.append_, run_underlying Try.underlying22, sizeOf, typeInfo, hi0, Builtin.lenOf, Builtin.firstCells, loadCells, loadCellsFrom, storeCells]
    refine wpList_plain hgd fun K hK => ?_
    unfold Oper.wp execOp
    simp only [ho, resolve, invoke, builtin, Sem.run_bind, Sem.run_pure, Result.andThen_ok, List.map_toArray, List.map_cons, List.map_nil, hs, hx, List.length_nil, hr]
    exact hK _ _ (h _ w hown ⟨rfl, rfl, rfl, Nat.le_refl _, fun _ _ _ => rfl⟩)
  | some ad =>
    refine wpList_append_own_at w hgd s x 22 ho base 3 i0 (.int .i64 0) 1 8 Try.underlying22 hi0 hz0 hz1 hz2 rfl (by decide) _ 0 [] hs hown ad xs.length c (xs.map vI) hx (by simp) (fun j u hj => ?_) (fun u hu => ?_) (by unfold maxLen; omega) (by omega) hbase fun v' w' h1 h2 _ h4 => h v' w' (by unfold OwnN; simpa using h1) h2
    · have hjl : j < xs.length := by simpa using (List.getElem?_eq_some_iff.1 hj).1
      obtain ⟨b, off, e, hcell⟩ := hA j hjl
      cases e
      rw [add_none, hcell, ← hj, List.getElem?_map, List.getElem?_eq_getElem hjl]
      rfl
    · obtain ⟨y, -, rfl⟩ := List.mem_map.1 hu
      rfl

def CopyN (w : World) (xs : List Int) (e : Ending) (w' : World) : Prop := ∃ v, e = .returned v ∧ OwnN w' w.heap.size v xs ∧ Below w.heap.size w w'
set_option maxRecDepth 100000 in
theorem rcopy_any {w : World} {xs : List Int} {v : Value} (h : LieN w v xs) (hn : xs.length ≤ 1000000) (hS : ∀ A n c, v = .slice (some A) n c → A.block < w.heap.size) :
    Calls Try.prog 17 #[v] w (CopyN w xs) := by
  obtain ⟨A, c, rfl, hc, hM, hA⟩ := id h
  have HX : LieN (w.alloc (.cells #[] 3)) (.slice A xs.length c) xs := ⟨A, c, rfl, hc, hM, fun k hk => by
    obtain ⟨b, off, e, h0⟩ := hA k hk
    refine ⟨b, off, e, ?_⟩
    have hlt : b < w.heap.size := (World.block_lt_of_cell? w _ h0)
    exact (World.cell?_of_block (Below.heap_alloc _ _ _ hlt)).trans h0⟩
  have HX := Lib.hid HX
  have HN := Lib.hid hn
  have HO := Lib.hid (OwnN.lit w w.heap.size (Nat.le_refl _))
  clear h hA hS
  go_enter Try.func17, Try.ntmps17
  go_wp2_with (first
    | (at_builtin; go_loud (refine wpList_cp rfl _ _ rfl w.heap.size w.heap.size 0 rfl HO.out rfl HX.out HN.out (by simp) ?_; go_loud (intro v' w' ho hg))))
  go_ret
  exact ⟨_, rfl, ho, ((Below.refl _ w).alloc (Nat.le_refl _) _).grown hg (by simp) (fun k hk => by have e : some w.heap.size = some k := hk; injection e with e; omega)⟩

theorem zero_q : (Try.prog.info? 27).map (fun i => (i.zero, i.size)) = some (some (.agg #[.int .i64 0, .slice none 0 0]), 2) := by kernel_rfl
def RNewQ (w : World) (n : Int) (e : Ending) (w' : World) : Prop := e = .returned (.agg #[.int .i64 (capM n : Nat), .slice none 0 0]) ∧ Below w.heap.size w w'
set_option maxRecDepth 100000 in
theorem rnew_any (w : World) (n : Int) (hn : In64 n) : Calls Try.prog 8 #[.int .i64 n] w (RNewQ w n) := by
  unfold In64 at hn
  by_cases h0 : n < 1
  · have hk : Hid ((1 : Int) = (capM n : Nat)) := Lib.hid (by unfold capM; rw [if_pos h0]; rfl)
    have c0 := cell_of_row _ w.heap.size 0 _ _ (0, 0) (heap_alloc_new w (.cells #[.int .i64 1, .slice none 0 0] 27))
    have c1 := cell_of_row _ w.heap.size 1 _ _ (0, 0) (heap_alloc_new w (.cells #[.int .i64 1, .slice none 0 0] 27))
    simp at c0 c1
    go_enter Try.func8, Try.ntmps8
    go_wp2
    refine bodyPost_ret (v := .agg #[.int .i64 1, .slice none 0 0]) ?_ rfl ⟨by rw [← hk.out], (Below.refl _ w).alloc (Nat.le_refl _) _⟩
    simp [results, Try.results8, go_sem, c0, c1]
  · by_cases h4 : 4 < n
    · have hk : Hid ((4 : Int) = (capM n : Nat)) := Lib.hid (by unfold capM; rw [if_neg h0, if_pos h4]; rfl)
      have c0 := cell_of_row _ w.heap.size 0 _ _ (0, 0) (heap_alloc_new w (.cells #[.int .i64 4, .slice none 0 0] 27))
      have c1 := cell_of_row _ w.heap.size 1 _ _ (0, 0) (heap_alloc_new w (.cells #[.int .i64 4, .slice none 0 0] 27))
      simp at c0 c1
      go_enter Try.func8, Try.ntmps8
      go_wp2
      refine bodyPost_ret (v := .agg #[.int .i64 4, .slice none 0 0]) ?_ rfl ⟨by rw [← hk.out], (Below.refl _ w).alloc (Nat.le_refl _) _⟩
      simp [results, Try.results8, go_sem, c0, c1]
    · have hk : Hid ((n : Int) = (capM n : Nat)) := Lib.hid (by unfold capM; rw [if_neg h0, if_neg h4]; omega)
      have c0 := cell_of_row _ w.heap.size 0 _ _ (0, 0) (heap_alloc_new w (.cells #[.int .i64 n, .slice none 0 0] 27))
      have c1 := cell_of_row _ w.heap.size 1 _ _ (0, 0) (heap_alloc_new w (.cells #[.int .i64 n, .slice none 0 0] 27))
      simp at c0 c1
      go_enter Try.func8, Try.ntmps8
      go_wp2
      refine bodyPost_ret (v := .agg #[.int .i64 n, .slice none 0 0]) ?_ rfl ⟨by rw [← hk.out], (Below.refl _ w).alloc (Nat.le_refl _) _⟩
      simp [results, Try.results8, go_sem, c0, c1]

end Go.Proofs.Ytadmacplpmahaaa
