/- The walk of the document's Closed. -/
import Derived.Test.YtogmiofmhmbhbaaNb
import Derived.RegionTactic
namespace Go.Proofs.Ytogmiofmhmbhbaa
open Go.RowKit

def rowA (f : Tab) (n i : Nat) : Array Value := ((List.range n).map fun j => Value.bool (f i j)).toArray
def rowV (G : Nat → Nat) (n i : Nat) : Value := .slice (some ⟨G i, 0, none⟩) n n
def rowsV (G : Nat → Nat) (n t : Nat) : List Value := (List.range t).map (rowV G n)
theorem rowA_get (f : Tab) (n i j : Nat) (h : j < n) : (rowA f n i)[j]? = some (.bool (f i j)) := by simp [rowA, h]
theorem rowA_upd (f : Tab) (n i j : Nat) : (rowA f n i).setIfInBounds j (.bool true) = rowA (upd f i j) n i := by
  apply Array.ext_getElem?
  intro k
  rw [Array.getElem?_setIfInBounds]
  by_cases e : j = k
  · subst e
    by_cases hj : j < n
    · rw [rowA_get _ _ _ _ hj]; simp [rowA, hj, upd]
    · simp [rowA, hj]
  · have e2 : ¬ k = j := fun h => e h.symm
    by_cases hk : k < n
    · rw [if_neg e, rowA_get _ _ _ _ hk, rowA_get _ _ _ _ hk]; simp [upd, e2]
    · rw [if_neg e]; simp [rowA, hk]
theorem rowA_other (f : Tab) (n i j a : Nat) (h : a ≠ i) : rowA (upd f i j) n a = rowA f n a := by
  unfold rowA; congr 2; funext k; simp [upd, h]

/-- the table f as it lies: the outer row in block go, row i in block G i -/
structure MS (w : World) (go n : Nat) (G : Nat → Nat) (f : Tab) : Prop where
  outer : ∀ i, i < n → w.cell? ⟨go, i, none⟩ = some (rowV G n i)
  inner : ∀ i, i < n → w.heap[G i]? = some (.cells (rowA f n i) 4 (0, 0))
theorem MS.cell {w : World} {go n : Nat} {G : Nat → Nat} {f : Tab} (h : MS w go n G f) {i j : Nat} (hi : i < n) (hj : j < n) : w.cell? ⟨G i, j, none⟩ = some (.bool (f i j)) := by
  rw [cell_of_row w (G i) j _ _ (0, 0) (h.inner i hi), rowA_get f n i j hj]
theorem MS.frozen {w : World} {go n : Nat} {G : Nat → Nat} {f : Tab} (h : MS w go n G f) {i : Nat} (hi : i < n) (j : Nat) : w.frozen? ⟨G i, j, none⟩ = false := frozen_of_row w (G i) j _ _ (h.inner i hi)
theorem MS.set_ {w : World} {go n : Nat} {G : Nat → Nat} {f : Tab} (h : MS w go n G f) (hd : ∀ i j, i < n → j < n → G i = G j → i = j) (hgo : ∀ i, i < n → G i ≠ go) {i j : Nat} (hi : i < n) :
    MS (w.setCell ⟨G i, j, none⟩ (.bool true)) go n G (upd f i j) := by
  refine ⟨fun a ha => ?_, fun a ha => ?_⟩
  · exact (World.cell?_setCell_other _ _ _ _ (fun e => by injection e with e1; exact hgo i hi e1)).trans (h.outer a ha)
  · by_cases e : a = i
    · subst e
      rw [← rowA_upd]
      exact heap_setCell_same w (G a) j _ _ _ (h.inner a ha)
    · rw [rowA_other _ _ _ _ _ e]
      exact (heap_setCell_other w ⟨G i, j, none⟩ (G a) _ (fun e2 => e (hd a i ha hi e2))).trans (h.inner a ha)
theorem MS.drawn {w w' : World} {go n : Nat} {G : Nat → Nat} {f : Tab} (h : MS w go n G f) (hd : Drawn w w') : MS w' go n G f := by
  obtain ⟨nq, rfl⟩ := hd
  exact ⟨h.outer, h.inner⟩

theorem info_bool : (Try.prog.info? 4).map (fun i => (i.zero, i.size, i.bytes)) = some (some (.bool false), 1, 1) := by kernel_rfl
theorem info_row : (Try.prog.info? 59).map (fun i => (i.zero, i.size, i.bytes)) = some (some (.slice none 0 0), 1, 24) := by kernel_rfl
theorem make_bools (n : Nat) (hn : n ≤ 8) (f : Tab) (i : Nat) (hf : ∀ j, j < n → f i j = false) (w : World) : (Instr.makeSlice 59 (.int .i64 n) (.int .i64 n)).run Try.prog w =
    .ok (.slice (some ⟨w.heap.size, 0, none⟩) n n) (w.alloc (.cells (rowA f n i) 4)) := by
  obtain ⟨i0, hi, hz0, hz1, hz2⟩ := info_parts info_bool
  have := run_make (P := Try.prog) w 59 4 i0 (.bool false) Try.underlying59 hi hz0 .i64 .i64 n n (by omega) (by omega) (by rw [hz2]; omega) (by omega)
  rw [this, hz1]
  have e : madeCells (Value.bool false).cells (n * 1) = rowA f n i := by
    apply Array.toList_inj.1
    rw [show (Value.bool false).cells = #[.bool false] from rfl, toList_madeCells_one]
    apply List.ext_getElem?
    intro k
    by_cases hk : k < n
    · simp [rowA, hk, hf k hk]
    · simp [rowA, hk]
  simp only [Int.toNat_natCast, e]

/-- the first t rows lie in the call's own memory from base on -/
def RowsAt (w : World) (base n t : Nat) (v : Value) (f : Tab) (G : Nat → Nat) : Prop :=
  w.ownsRow base 59 1 v t (rowsV G n t) ∧ (∀ i, i < t → base ≤ G i ∧ w.heap[G i]? = some (.cells (rowA f n i) 4 (0, 0))) ∧ ∀ i j, i < t → j < t → G i = G j → i = j

/-- append of one row -/
theorem wpList_append_row {ops : Array Oper} {rest : List Oper} {o : Oper} {a : Act} {w : World} {Q : Exit → Act → World → Prop} (hgd : o.guard = none) (s x : Operand)
    (ho : o.op = .call { callee := .builtin .append, args := #[s, x], argTypes := #[29, 29] })
    (base : Nat) (v : Value) (t : Nat) (xs : List Value) (hs : a.eval s = v) (hown : w.ownsRow base 59 1 v t xs) (g c : Nat) (z : Value) (hz : z.oneCell' = true) (hx : a.eval x = .slice (some ⟨g, 0, none⟩) 1 c)
    (hnews : ∀ j u, ([z] : List Value)[j]? = some u → w.cell? ((⟨g, 0, none⟩ : Addr).add j) = some u) (hb : t ≤ 100000) (hbase : base ≤ w.heap.size)
    (h : ∀ v' w', w'.ownsRow base 59 1 v' (t + 1) (xs ++ [z]) → w.grownBy w' v.ownBlock → wpList Try.prog ops Q rest (a.put o.dst v') w') : wpList Try.prog ops Q (o :: rest) a w := by
  obtain ⟨i0, hi, hz0, hz1, hz2⟩ := info_parts info_row
  exact wpList_append_own _ hgd s x 29 ho base 59 i0 (.slice none 0 0) 1 24 Try.underlying29 hi hz0 hz1 hz2 rfl (by decide) v t xs hs hown ⟨g, 0, none⟩ 1 c [z] hx rfl
    hnews (by intro u hu; simp at hu; subst hu; exact hz) (by unfold maxLen; omega) (by omega) hbase fun v' w' hown' hgr _ => h v' w' hown' hgr
theorem one_of {w : World} {z : Value} {T : TypeId} {g : Nat} (hg : g = w.heap.size) : ∀ j u, ([z] : List Value)[j]? = some u → (w.alloc (.cells #[z] T)).cell? ((⟨g, 0, none⟩ : Addr).add j) = some u := by
  subst hg
  intro j u hu
  match j, hu with
  | 0, hu =>
    have h2 := cell_of_row _ _ 0 _ _ (0, 0) (heap_alloc_new w (.cells #[z] T))
    simp at hu
    subst hu
    exact h2

end Go.Proofs.Ytogmiofmhmbhbaa
