/- Lists and code, read out of the memory that a caller hands over. -/
import Derived.Test.YtadkimnpeachpaaGreatDoorMdb
set_option linter.unusedVariables false
set_option maxRecDepth 100000
namespace Go.Proofs.YtadkimnpeachpaaGreatDoor
open Go.RowKit

theorem cells_at {w : World} {base : Nat} {a : Addr} {n : Nat} {cs : List Value} (h : w.cells? base a n = some cs) : cs.length = n ∧ ∀ i, i < n → w.cell? (a.add i) = cs[i]? := by
  unfold World.cells? at h
  split at h
  · have h1 := mapM_some_length h
    refine ⟨by simpa using h1, fun i hi => ?_⟩
    have := mapM_some_get h i i (by simp [hi])
    exact this
  · cases h
theorem cell_in {w : World} {a : Addr} {v : Value} (h : w.cell? a = some v) : a.block < w.heap.size ∧ a.spot = none := by
  unfold World.cell? at h
  split at h
  · rename_i c e z hc
    refine ⟨?_, ?_⟩
    · exact heap_lt hc
    · split at h
      · cases h
      · rename_i hs
        cases hsp : a.spot with
        | none => rfl
        | some q => rw [hsp] at hs; simp at hs
  · cases h
theorem weightsAll_in {H : Type} {P : Program} {e : TypeId} : ∀ {ds : List (DataW H)} {d : DataW H} {x : Nat}, d ∈ ds → x ∈ DataW.weights P e d → x ∈ DataW.weightsAll P e ds
  | d0 :: ds, d, x, hd, hx => by
    rw [DataW.weightsAll]
    rcases List.mem_cons.1 hd with rfl | hd
    · exact List.mem_append_left _ hx
    · exact List.mem_append_right _ (weightsAll_in hd hx)

section
variable {H : Type} {enc : TypeId × Value → H} {P : Program} {w : World} {base : Nat} {spare : Nat → Bool} {held : Bool}
theorem opens_lies {α : Type} {E : Kd α} {st e : TypeId} (ht : P.underlying st = some (.slice e)) (hsz : P.cellsOf e = E.sz) (hby : 1 ≤ P.bytesOf e)
    (elem : ∀ (n : Nat) (cs : List Value) (x : DataW H × List MemPlace), cs.length = E.sz → DataW.trod enc P w base spare held n e cs = some x → (∀ y ∈ DataW.weights P e x.1, y ≤ 140737488355328) → ∃ a, E.Q w (· < w.heap.size) a cs)
    (fuel : Nat) (v : Value) (x : DataW H × List MemPlace) (h : DataW.trod enc P w base spare held fuel st [v] = some x) (hwt : ∀ y ∈ DataW.weights P st x.1, y ≤ 140737488355328) : ∃ xs, Lies E w (· < w.heap.size) xs v := by
  rcases DataW.trod_slice ht h with ⟨hcs, hx⟩ | ⟨a, len, cap, elems, rest, n, hfu, hcs, hx, hbase, hlc, hcap, hlen, hel, -, -⟩
  · obtain rfl : v = .slice none 0 0 := by simpa using hcs
    exact ⟨[], Lies.nil _ _⟩
  · obtain rfl : v = .slice (some a) len cap := by simpa using hcs
    rw [hsz] at hel
    have hlm : len ≤ 140737488355328 := by
      have := hwt ((elems.length + rest.length) * P.bytesOf e) (by
        rw [hx]
        simp only [DataW.weights, ht]
        rw [List.length_map, List.length_map]
        exact List.mem_cons_self)
      have h2 : elems.length + rest.length ≤ (elems.length + rest.length) * P.bytesOf e := Nat.le_mul_of_pos_right _ hby
      omega
    have hone : ∀ i, i < len → ∃ (cs : List Value) (b : α), w.cells? base (a.add (i * E.sz)) E.sz = some cs ∧ E.Q w (· < w.heap.size) b cs := by
      intro i hi
      have h1 := hel i hi
      have hie : i < elems.length := by omega
      rw [List.getElem?_eq_getElem hie] at h1
      obtain ⟨cs, h2, h3⟩ := Option.bind_eq_some_iff.1 h1
      obtain ⟨b, hb⟩ := elem n cs elems[i] (cells_at h2).1 h3 (fun y hy => by
        refine hwt y ?_
        rw [hx]
        simp only [DataW.weights, ht]
        exact List.mem_cons_of_mem _ (List.mem_append_left _ (weightsAll_in (List.mem_map_of_mem (List.getElem_mem hie)) hy)))
      exact ⟨cs, b, h2, hb⟩
    by_cases h0 : len = 0
    · subst h0
      exact ⟨[], some a, cap, fun _ => [], rfl, by simp, by unfold maxLen at hcap; omega, by simp, fun k hk => absurd hk (by simp)⟩
    · obtain ⟨cs0, b0, _, hb0⟩ := hone 0 (by omega)
      have htot : ∀ i, ∃ p : α × List Value, i < len → w.cells? base (a.add (i * E.sz)) E.sz = some p.2 ∧ E.Q w (· < w.heap.size) p.1 p.2 := fun i => by
        by_cases hi : i < len
        · obtain ⟨cs, e, h1, h2⟩ := hone i hi
          exact ⟨(e, cs), fun _ => ⟨h1, h2⟩⟩
        · exact ⟨(b0, []), fun h => absurd h hi⟩
      obtain ⟨F, hF⟩ := Classical.axiomOfChoice htot
      have hl : ((List.range len).map fun i => (F i).1).length = len := by simp
      have hat : ∀ k, k < len → ∀ j, j < E.sz → w.cell? ((a.add (k * E.sz)).add j) = (F k).2[j]? := fun k hk => (cells_at (hF k hk).1).2
      have hsp : a.spot = none := by
        have hq := hF 0 (by omega)
        have hz : 0 < (F 0).2.length := by rw [E.len hq.2]; exact E.pos
        have := hat 0 (by omega) 0 E.pos
        rw [List.getElem?_eq_getElem hz] at this
        have := (cell_in this).2
        simpa [Addr.add] using this
      obtain ⟨b, off, rfl⟩ : ∃ b off, a = ⟨b, off, none⟩ := ⟨a.block, a.off, by cases a; simp at hsp; rw [hsp]⟩
      simp only [add_none] at hat
      refine ⟨(List.range len).map fun i => (F i).1, some ⟨b, off, none⟩, cap, fun k => (F k).2, by rw [hl], by rw [hl]; exact hlc, by unfold maxLen at hcap; omega, by rw [hl]; exact hlm, fun k hk => ?_⟩
      rw [hl] at hk
      have hq := hF k hk
      have hz : 0 < (F k).2.length := by rw [E.len hq.2]; exact E.pos
      refine ⟨b, off, rfl, ?_, by simpa using hq.2, hat k hk⟩
      have := hat k hk 0 E.pos
      rw [List.getElem?_eq_getElem hz] at this
      exact (cell_in this).1

theorem int_range {n : Int} (h : (Lit.int .i64 n).wf = true) : In64 n := by
  have hmin : IntKind.i64.min = -9223372036854775808 := rfl
  have hmax : IntKind.i64.max = 9223372036854775807 := rfl
  simp only [Lit.wf, Bool.and_eq_true, decide_eq_true_eq] at h
  exact ⟨by omega, by omega⟩
theorem open_i {t : TypeId} {fuel : Nat} {v : Value} {x : DataW H × List MemPlace} (ht : P.underlying t = some (.int .i64)) (h : DataW.trod enc P w base spare held fuel t [v] = some x) : ∃ n, v = .int .i64 n ∧ In64 n := by
  obtain ⟨n, h1, h2, h3⟩ := DataW.trod_int ht h
  exact ⟨n, by simpa using h1, int_range h3⟩
theorem open_t {t : TypeId} {fuel : Nat} {v : Value} {x : DataW H × List MemPlace} (ht : P.underlying t = some .string) (h : DataW.trod enc P w base spare held fuel t [v] = some x) (hwt : ∀ y ∈ DataW.weights P t x.1, y ≤ 140737488355328) :
    ∃ s, v = .string (bs s) ∧ s.length ≤ 140737488355328 := by
  obtain ⟨s, h1, h2, h3⟩ := DataW.trod_string ht h
  refine ⟨s.data.toList, ?_, hwt _ (by simp [h2, DataW.weights])⟩
  rw [bs_back]
  simpa using h1
end

section
variable {H : Type} {enc : TypeId × Value → H} {w : World} {base : Nat} {spare : Nat → Bool} {held : Bool}
theorem one_cell {cs : List Value} (h : cs.length = 1) : ∃ v, cs = [v] := by
  match cs, h with
  | [v], _ => exact ⟨v, rfl⟩
theorem opens_ints (fuel : Nat) (v : Value) (x : DataW H × List MemPlace) (h : DataW.trod enc Tryz.prog w base spare held fuel 26 [v] = some x) (hwt : ∀ y ∈ DataW.weights Tryz.prog 26 x.1, y ≤ 140737488355328) : ∃ xs, Lies KI w (· < w.heap.size) xs v :=
  opens_lies Tryz.underlying26 (by kernel_rfl) (of_decide_eq_true (by kernel_rfl)) (fun n cs x hl hx hw => by
    obtain ⟨u, rfl⟩ := one_cell hl
    obtain ⟨n, h1, h2⟩ := open_i Tryz.underlying3 hx
    exact ⟨n, by rw [h1], h2⟩) fuel v x h hwt
theorem opens_texts (fuel : Nat) (v : Value) (x : DataW H × List MemPlace) (h : DataW.trod enc Tryz.prog w base spare held fuel 25 [v] = some x) (hwt : ∀ y ∈ DataW.weights Tryz.prog 25 x.1, y ≤ 140737488355328) : ∃ xs, Lies KT w (· < w.heap.size) xs v :=
  opens_lies Tryz.underlying25 (by kernel_rfl) (of_decide_eq_true (by kernel_rfl)) (fun n cs x hl hx hw => by
    obtain ⟨u, rfl⟩ := one_cell hl
    obtain ⟨s, h1, h2⟩ := open_t Tryz.underlying9 hx hw
    exact ⟨s, by rw [h1], h2⟩) fuel v x h hwt
end

end Go.Proofs.YtadkimnpeachpaaGreatDoor
