/- A whole list, copied by append: numbers, texts, names with sizes. -/
import Derived.Test.YtadkimnpeachpaaGreatDoorMdc
import Derived.Test.YtadkimnpeachpaaGreatDoorDn
set_option linter.unusedVariables false
set_option linter.unusedSimpArgs false
namespace Go.Proofs.YtadkimnpeachpaaGreatDoor
open Go.RowKit

section
variable {α : Type} {E : Kd α}
/-- the cells of a list whose rows are known -/
theorem rows_flat {w : World} {b off n : Nat} {row : Nat → List Value} {sz : Nat} (hpos : 0 < sz) (hl : ∀ k, k < n → (row k).length = sz) (hc : ∀ k, k < n → ∀ j, j < sz → w.cell? ⟨b, off + k * sz + j, none⟩ = (row k)[j]?) :
    ∀ j u, ((List.range n).map row).flatten[j]? = some u → w.cell? ((⟨b, off, none⟩ : Addr).add j) = some u := by
  intro j u hj
  have hl' : ∀ r ∈ (List.range n).map row, r.length = sz := by
    intro r hr
    obtain ⟨k, hk, rfl⟩ := List.mem_map.1 hr
    exact hl k (List.mem_range.1 hk)
  have hlt : j < ((List.range n).map row).flatten.length := by
    rcases Nat.lt_or_ge j ((List.range n).map row).flatten.length with h | h
    · exact h
    · rw [List.getElem?_eq_none h] at hj; cases hj
  rw [flat_len hl', List.length_map, List.length_range] at hlt
  have hk : j / sz < n := (Nat.div_lt_iff_lt_mul hpos).2 hlt
  have hm : j % sz < sz := Nat.mod_lt _ hpos
  have he : j = j / sz * sz + j % sz := (Nat.div_add_mod' j sz).symm
  have h1 := flat_get hl' (j / sz) (by simpa using hk) (j % sz) hm
  rw [← he, hj] at h1
  rw [add_none, show off + j = off + j / sz * sz + j % sz from by omega, hc _ hk _ hm]
  rw [h1]
  simp

/-- append of a whole list to a new, empty one -/
theorem wpList_append_all {P : Program} {w : World} {ops : Array Oper} {rest : List Oper} {o : Oper} {act : Act} {Q : Exit → Act → World → Prop} (hgd : o.guard = none) (s x : Operand) (t e : TypeId)
    (ho : o.op = .call { callee := .builtin .append, args := #[s, x], argTypes := #[t, t] }) (ht : P.underlying t = some (.slice e)) (z : Value) (bytes : Nat) (hi : (P.info? e).map (fun i => (i.zero, i.size, i.bytes)) = some (some z, E.sz, bytes)) (hzs : z.cells.size = E.sz) (hby : bytes ≤ 140)
    (flat : ∀ {w w' : World} {S S' : Nat → Prop} {a : α} {cs : List Value}, E.Q w S a cs → E.Q w' S' a cs)
    (base : Nat) (v0 : Value) (hs : act.eval s = v0) (hown : OwnL E e w base [] v0)
    (S : Nat → Prop) (xs : List α) (v : Value) (hx : act.eval x = v) (hl : Lies E w S xs v) (hn : xs.length ≤ 1000000) (hbase : base ≤ w.heap.size)
    (h : ∀ v' w', OwnL E e w' base xs v' → Below base w w' → wpList P ops Q rest (act.put o.dst v') w') : wpList P ops Q (o :: rest) act w := by
  obtain ⟨i0, hi0, hz0, hz1, hz2⟩ := info_parts hi
  obtain ⟨A, c, row, rfl, hc, hM, hM2, hA⟩ := hl
  obtain ⟨rows0, hl0, -, hrow, -⟩ := hown
  obtain rfl : rows0 = [] := List.eq_nil_of_length_eq_zero hl0
  have hbb : (0 + xs.length) * bytes ≤ 140737488355328 := by
    have := Nat.mul_le_mul (show 0 + xs.length ≤ 1000000 by omega) hby
    omega
  have hfin : ∀ v' w', w'.ownsRow base e E.sz v' (0 + xs.length) ([] ++ ((List.range xs.length).map row).flatten) → w.grownBy w' v0.ownBlock → wpList P ops Q rest (act.put o.dst v') w' := by
    intro v' w' h1 h2
    rw [Nat.zero_add, List.nil_append] at h1
    refine h v' w' ⟨(List.range xs.length).map row, by simp, hM2, h1, fun k hk hk' => ?_⟩ ?_
    · rw [List.getElem_map, List.getElem_range]
      obtain ⟨_, _, _, _, hq, _⟩ := hA k hk
      exact flat hq
    · exact ⟨h2.os, h2.tape, h2.output, h2.size, fun b hb => h2.block b (by omega) (fun e' => by
        have := hrow.lt b e'.symm
        omega)⟩
  by_cases hz : xs.length = 0
  · have h0 : xs = [] := List.eq_nil_of_length_eq_zero hz
    subst h0
    cases A with
    | none =>
      rcases hrow.2 with ⟨rfl, -⟩ | ⟨g, cap, cur, rfl, hbg, hg, hc1, hc2, hc3⟩
      · have hr : (Builtin.append_ #[t, t] o.type #[.slice none 0 0, .slice none 0 c]).run P w = .ok (.slice none 0 0) w := by
          simp [Builtin.append_, run_underlying ht, sizeOf, typeInfo, hi0, Builtin.lenOf, Builtin.firstCells, loadCells, loadCellsFrom, storeCells]
        refine wpList_plain hgd fun K hK => ?_
        unfold Oper.wp execOp
        simp only [ho, resolve, invoke, builtin, Sem.run_bind, Sem.run_pure, Result.andThen_ok, List.map_toArray, List.map_cons, List.map_nil, hs, hx, List.length_nil, hr]
        exact hK _ _ (hfin _ w (by simpa using hrow) ⟨rfl, rfl, rfl, Nat.le_refl _, fun _ _ _ => rfl⟩)
      · have hr : (Builtin.append_ #[t, t] o.type #[.slice (some ⟨g, 0, none⟩) 0 cap, .slice none 0 c]).run P w = .ok (.slice (some ⟨g, 0, none⟩) 0 cap) w := by
          simp [Builtin.append_, run_underlying ht, sizeOf, typeInfo, hi0, Builtin.lenOf, Builtin.firstCells, loadCells, loadCellsFrom, storeCells]
        refine wpList_plain hgd fun K hK => ?_
        unfold Oper.wp execOp
        simp only [ho, resolve, invoke, builtin, Sem.run_bind, Sem.run_pure, Result.andThen_ok, List.map_toArray, List.map_cons, List.map_nil, hs, hx, List.length_nil, hr]
        exact hK _ _ (hfin _ w (by simpa using hrow) ⟨rfl, rfl, rfl, Nat.le_refl _, fun _ _ _ => rfl⟩)
    | some ad =>
      exact wpList_append_own_at w hgd s x t ho base e i0 z E.sz bytes ht hi0 hz0 hz1 hz2 hzs E.pos _ 0 [] hs hrow ad 0 c [] hx (by simp) (fun j u hj => by simp at hj) (fun u hu => by simp at hu) (by unfold maxLen; omega) (by omega) hbase fun v' w' h1 h2 _ h4 => hfin v' w' (by simpa using h1) h2
  · obtain ⟨b, off, rfl, _⟩ := hA 0 (by omega)
    have hl' : ∀ k, k < xs.length → (row k).length = E.sz := fun k hk => by
      obtain ⟨_, _, _, _, hq, _⟩ := hA k hk
      exact E.len hq
    have hcl : ∀ k, k < xs.length → ∀ j, j < E.sz → w.cell? ⟨b, off + k * E.sz + j, none⟩ = (row k)[j]? := fun k hk => by
      obtain ⟨_, _, e, _, _, hc⟩ := hA k hk
      cases e
      exact hc
    have hlr : ∀ r ∈ (List.range xs.length).map row, r.length = E.sz := by
      intro r hr
      obtain ⟨k, hk, rfl⟩ := List.mem_map.1 hr
      exact hl' k (List.mem_range.1 hk)
    exact wpList_append_own_at w hgd s x t ho base e i0 z E.sz bytes ht hi0 hz0 hz1 hz2 hzs E.pos _ 0 [] hs hrow ⟨b, off, none⟩ xs.length c _ hx (by rw [flat_len hlr]; simp) (rows_flat E.pos hl' hcl) (fun u hu => by
      obtain ⟨r, hr, hu⟩ := List.mem_flatten.1 hu
      obtain ⟨k, hk, rfl⟩ := List.mem_map.1 hr
      obtain ⟨_, _, _, _, hq, _⟩ := hA k (List.mem_range.1 hk)
      exact E.one hq u hu) (by unfold maxLen; omega) hbb hbase fun v' w' h1 h2 _ h4 => hfin v' w' h1 h2
end

theorem info_int : (Tryz.prog.info? 3).map (fun i => (i.zero, i.size, i.bytes)) = some (some (.int .i64 0), 1, 8) := by kernel_rfl
theorem info_text : (Tryz.prog.info? 9).map (fun i => (i.zero, i.size, i.bytes)) = some (some (.string ⟨#[]⟩), 1, 16) := by kernel_rfl

/-- a list that a call has made anew -/
def NewL {α : Type} (E : Kd α) (e : TypeId) (w : World) (xs : List α) (en : Ending) (w' : World) : Prop :=
  ∃ v, en = .returned v ∧ OwnL E e w' w.heap.size xs v ∧ Below w.heap.size w w'

theorem copyInts_any {w : World} {S : Nat → Prop} {xs : List Int} {v : Value} (h : Lies KI w S xs v) (hn : xs.length ≤ 1000000) (hS : ∀ b, S b → b < w.heap.size) :
    Calls Tryz.prog 11 #[v] w (NewL KI 3 w xs) := by
  obtain ⟨A, c, rfl, hc, hM⟩ := h.form
  have HX := Lib.hid (h.keep (w' := w.alloc (.cells #[] 3)) (fun b hb => Below.heap_alloc _ _ _ (hS b hb)) (fun _ h => h))
  have HN := Lib.hid hn
  clear h
  go_enter Tryz.func11, Tryz.ntmps11
  go_wp2_with (first
    | (at_builtin; go_loud (refine wpList_append_all (E := KI) rfl _ _ _ _ rfl Tryz.underlying26 _ _ info_int rfl (by decide) (fun h => h) w.heap.size _ rfl (OwnL.lit (E := KI) 3 w) _ xs _ rfl HX.out HN.out (by simp) ?_; go_loud (intro v' w' ho hb; obtain ⟨A', c', rfl, -⟩ := ho.lies.form))))
  go_ret
  exact ⟨_, rfl, ho, ((Below.refl _ w).alloc (Nat.le_refl _) _).trans hb⟩

theorem copyTexts_any {w : World} {S : Nat → Prop} {xs : List (List UInt8)} {v : Value} (h : Lies KT w S xs v) (hn : xs.length ≤ 1000000) (hS : ∀ b, S b → b < w.heap.size) :
    Calls Tryz.prog 9 #[v] w (NewL KT 9 w xs) := by
  obtain ⟨A, c, rfl, hc, hM⟩ := h.form
  have HX := Lib.hid (h.keep (w' := w.alloc (.cells #[] 9)) (fun b hb => Below.heap_alloc _ _ _ (hS b hb)) (fun _ h => h))
  have HN := Lib.hid hn
  clear h
  go_enter Tryz.func9, Tryz.ntmps9
  go_wp2_with (first
    | (at_builtin; go_loud (refine wpList_append_all (E := KT) rfl _ _ _ _ rfl Tryz.underlying25 _ _ info_text rfl (by decide) (fun h => h) w.heap.size _ rfl (OwnL.lit (E := KT) 9 w) _ xs _ rfl HX.out HN.out (by simp) ?_; go_loud (intro v' w' ho hb; obtain ⟨A', c', rfl, -⟩ := ho.lies.form))))
  go_ret
  exact ⟨_, rfl, ho, ((Below.refl _ w).alloc (Nat.le_refl _) _).trans hb⟩

end Go.Proofs.YtadkimnpeachpaaGreatDoor
