/- Layer 8: the walk of HatchAgrees. -/
import Derived.Test.YtadkimnpeachpaaGreatDoorPvk
import Derived.Test.YtadkimnpeachpaaGreatDoorPmf
set_option linter.unusedVariables false
set_option linter.unusedSimpArgs false
namespace Go.Proofs.YtadkimnpeachpaaGreatDoor
open Go.RowKit

/-- numbers in a block of the call's own, each of which may be another one -/
def CRow (w : World) (base : Nat) (xs : List Int) (v : Value) : Prop :=
  (xs = [] ∧ ∃ A c, v = .slice A 0 c ∧ c ≤ 9223372036854775807) ∨ ∃ g cap cur, v = .slice (some ⟨g, 0, none⟩) xs.length cap ∧ base ≤ g ∧ w.heap[g]? = some (.cells cur 3 (0, 0)) ∧ xs.length ≤ cap ∧ cap ≤ 9223372036854775807 ∧ xs.length ≤ 1000000 ∧ cur.size = cap ∧ ∀ (q : Nat) (hq : q < xs.length), cur[q]? = some (.int .i64 xs[q])
theorem CRow.of {w : World} {base : Nat} {xs : List Int} {v : Value} (h : OwnL KI 3 w base xs v) (hn : xs.length ≤ 1000000) : CRow w base xs v := by
  obtain ⟨rows, hl, hM, hown, hq⟩ := h
  have hlen := OwnL.lens (e := 3) (base := base) hl hq
  rcases hown.2 with ⟨rfl, h2⟩ | ⟨g, cap, cur, rfl, hbg, hg, hc1, hc2, hc3, hc4⟩
  · exact .inl ⟨List.eq_nil_of_length_eq_zero h2, none, 0, rfl, by omega⟩
  · refine .inr ⟨g, cap, cur, rfl, hbg, hg, hc1, by unfold maxLen at hc2; omega, hn, by rw [hc3]; exact Nat.mul_one cap, fun q hq' => ?_⟩
    have hk' : q < rows.length := by omega
    have h1 := flat_get hlen q hk' 0 (by decide)
    have h0 : rows[q] = [.int .i64 xs[q]] := (hq q hq' hk').1
    rw [h0] at h1
    rw [← hc4, List.getElem?_take_of_lt (by show q * 1 + 0 < xs.length * 1; omega)] at h1
    have : cur.toList[q]? = some (.int .i64 xs[q]) := by
      rw [show q * KI.sz + 0 = q from by show q * 1 + 0 = q; omega] at h1
      exact h1
    simpa using this
theorem CRow.lies {w : World} {base : Nat} {xs : List Int} {v : Value} (h : CRow w base xs v) (hin : ∀ (q : Nat) (hq : q < xs.length), In64 xs[q]) : Lies KI w (· < w.heap.size) xs v := by
  rcases h with ⟨rfl, A, c, rfl, hc⟩ | ⟨g, cap, cur, rfl, hb, hg, h1, h2, h3, h4, h5⟩
  · exact ⟨A, c, fun _ => [], rfl, Nat.zero_le _, hc, by simp, fun k hk => absurd hk (by simp)⟩
  · refine ⟨_, cap, fun k => [.int .i64 (xs[k]?.getD 0)], rfl, h1, h2, by omega, fun k hk => ⟨g, 0, rfl, heap_lt hg, ?_, fun j hj => ?_⟩⟩
    · dsimp only
      rw [List.getElem?_eq_getElem hk]
      exact ⟨rfl, hin k hk⟩
    · obtain rfl : j = 0 := by have : j < 1 := hj; omega
      rw [show 0 + k * KI.sz + 0 = k from by show 0 + k * 1 + 0 = k; omega, cell_of_row w g k _ _ (0, 0) hg, h5 k hk]
      show _ = some (Value.int .i64 (xs[k]?.getD 0))
      rw [List.getElem?_eq_getElem hk]
      rfl
theorem CRow.keep {w w' : World} {base : Nat} {xs : List Int} {v : Value} (h : CRow w base xs v) (hb : Below w.heap.size w w') : CRow w' base xs v := by
  rcases h with h | ⟨g, cap, cur, h0, hbg, hg, h1⟩
  · exact .inl h
  · exact .inr ⟨g, cap, cur, h0, hbg, (hb.block g (heap_lt hg)).trans hg, h1⟩
/-- another number at a place -/
theorem CRow.set {w : World} {base : Nat} {xs : List Int} {g n cap : Nat} (h : CRow w base xs (.slice (some ⟨g, 0, none⟩) n cap)) {q : Nat} (hq : q < xs.length) (x : Int) :
    CRow (w.setCell ⟨g, q, none⟩ (.int .i64 x)) base (xs.set q x) (.slice (some ⟨g, 0, none⟩) n cap) ∧ base ≤ g ∧ w.frozen? ⟨g, q, none⟩ = false ∧ w.cell? ⟨g, q, none⟩ = some (.int .i64 xs[q]) := by
  rcases h with ⟨rfl, A, c, h, -⟩ | ⟨g', cap', cur, e, hb, hg, h1, h2, h3, h4, h5⟩
  · simp at hq
  · cases e
    refine ⟨.inr ⟨g, cap, cur.setIfInBounds q (.int .i64 x), by rw [List.length_set], hb, ?_, by rw [List.length_set]; exact h1, h2, by rw [List.length_set]; exact h3, by rw [Array.size_setIfInBounds]; exact h4, fun k hk => ?_⟩, hb, frozen_of_row w g q _ _ hg, by rw [cell_of_row w g q _ _ (0, 0) hg, h5 q hq]⟩
    · simp [World.setCell, Array.getElem?_modify, hg]
    · rw [List.length_set] at hk
      rw [Array.getElem?_setIfInBounds, List.getElem_set]
      split
      · rename_i e
        subst e
        rw [if_pos (by omega)]
      · exact h5 k hk

end Go.Proofs.YtadkimnpeachpaaGreatDoor
