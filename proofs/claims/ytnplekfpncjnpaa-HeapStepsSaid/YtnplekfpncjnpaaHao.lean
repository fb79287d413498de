/- Objects lie apart: what a new one changes (plain). -/
import Derived.Test.YtnplekfpncjnpaaHab
set_option linter.unusedVariables false
set_option linter.unusedSimpArgs false
namespace Go.Proofs.Ytnplekfpncjnpaa
open Go.RowKit

theorem place_far {H : Hp} {a : Int} {q : Nat × Nat} (h : place H a = some q) : 1 ≤ a := by
  unfold place at h
  split at h
  · cases h
  · omega
theorem make_apart {H : Hp} (hg : GoodH H) {t : Nat} (ht : t < H.length) {s : Nat} (h0 : 0 < s) (hs : s ≤ 64 - (getM H t).ws.length) (fn op : Int) :
    ∃ H' : Hp, ∃ a : Nat, makeM H t s fn op = (H', (a : Int), true) ∧ 1 ≤ a ∧ a + s ≤ 257 ∧
      (∀ i, i < s → place H (a + i : Nat) = none ∧ ofM H' (a + i : Nat) = (t, ⟨(getM H t).ws.length, s, fn, op⟩, true) ∧ loadM H' (a + i : Nat) = (noWd, true)) ∧
      (∀ y : Nat, (place H' y).isSome = ((place H y).isSome || decide (a ≤ y ∧ y < a + s))) := by
  have hgt := hg.get t
  have h4 := hg.1
  obtain ⟨n, hn⟩ : ∃ n, n = (getM H t).ws.length := ⟨_, rfl⟩
  have hn64 : n ≤ 64 := by rw [hn]; exact hgt.2
  rw [← hn] at hs ⊢
  have hn0 : n < 64 := by omega
  obtain ⟨H', hH'⟩ : ∃ H', H' = H.set t ⟨(getM H t).ws ++ List.replicate s noWd, (getM H t).os ++ [⟨n, s, fn, op⟩]⟩ := ⟨_, rfl⟩
  have hgm : ∀ u, getM H' u = if t = u then ⟨(getM H t).ws ++ List.replicate s noWd, (getM H t).os ++ [⟨n, s, fn, op⟩]⟩ else getM H u := fun u => by rw [hH', getM_set ht]
  have hp : ∀ i, i < s → place H' ((1 + 64 * t + n + i : Nat) : Int) = some (t, n + i) := fun i hi => by
    rw [show ((1 + 64 * t + n + i : Nat) : Int) = 1 + 64 * (t : Int) + (n + i : Nat) from by omega, place_of (by omega), hgm, if_pos rfl]
    rw [if_pos (by simp [← hn]; omega)]
  refine ⟨H', 1 + 64 * t + n, ?_, by omega, by omega, fun i hi => ⟨?_, ?_, ?_⟩, fun y => ?_⟩
  · unfold makeM
    rw [if_neg (by omega), Int.toNat_natCast, ← hn, if_neg (by omega), if_neg (by omega), Int.toNat_natCast, ← hH']
    congr 2
    omega
  · rw [show ((1 + 64 * t + n + i : Nat) : Int) = 1 + 64 * (t : Int) + (n + i : Nat) from by omega, place_of (by omega), if_neg (by omega)]
  · unfold ofM
    rw [hp i hi]
    dsimp only
    rw [hgm, if_pos rfl]
    dsimp only
    rw [holder_at (i := (getM H t).os.length) (by simp) (fun j hj => ?_) (by simp; omega)]
    · simp
    · rw [List.getElem_append_left hj]
      have := (chained_end hgt.1 _ (List.getElem_mem hj)).2.2
      omega
  · unfold loadM
    rw [hp i hi]
    dsimp only
    rw [hgm, if_pos rfl]
    dsimp only
    rw [List.getElem?_append_right (by omega), ← hn, show n + i - n = i from by omega, List.getElem?_replicate, if_pos hi]
    rfl
  · rcases Nat.eq_zero_or_pos y with rfl | hy
    · rw [place_low (by omega), place_low (by omega)]
      simp
    · obtain ⟨u, k, hk, rfl⟩ : ∃ u k : Nat, k < 64 ∧ y = 1 + 64 * u + k := ⟨(y - 1) / 64, (y - 1) % 64, by omega, by omega⟩
      rw [show ((1 + 64 * u + k : Nat) : Int) = 1 + 64 * (u : Int) + (k : Nat) from by omega, place_of hk, place_of hk, hgm]
      by_cases e : t = u
      · subst e
        rw [if_pos rfl, ← hn]
        simp only [List.length_append, List.length_replicate, ← hn]
        by_cases h1 : k < n
        · rw [if_pos (by omega), if_pos h1]; simp
        · rw [if_neg h1]
          by_cases h2 : k < n + s
          · rw [if_pos h2]; simp; omega
          · rw [if_neg h2]; simp; omega
      · rw [if_neg e]
        have : ¬ (1 + 64 * t + n ≤ 1 + 64 * u + k ∧ 1 + 64 * u + k < 1 + 64 * t + n + s) := by omega
        simp [this]
theorem make_same {H : Hp} {t size : Int} (h : ¬ (0 ≤ t ∧ t < (H.length : Int) ∧ 0 < size ∧ size ≤ 64 - ((getM H t.toNat).ws.length : Int))) (fn op : Int) :
    makeM H t size fn op = (H, 0, false) ∨ (size = 0 ∧ makeM H t size fn op = (H, 0, true)) := by
  unfold makeM
  by_cases h1 : t < 0 ∨ (H.length : Int) ≤ t
  · rw [if_pos h1]; exact .inl rfl
  · rw [if_neg h1]
    by_cases h2 : size < 0 ∨ 64 - ((getM H t.toNat).ws.length : Int) < size
    · rw [if_pos h2]; exact .inl rfl
    · rw [if_neg h2]
      by_cases h3 : size = 0
      · rw [if_pos h3]; exact .inr ⟨h3, rfl⟩
      · exact absurd ⟨by omega, by omega, by omega, by omega⟩ h
theorem place_new (n : Int) (a : Int) : place (newM n) a = none := by
  cases h : place (newM n) a with
  | none => rfl
  | some q =>
    obtain ⟨t, k⟩ := q
    obtain ⟨-, -, ht, hk⟩ := place_some h
    rw [getM_lt ht] at hk
    have := List.eq_of_mem_replicate (List.getElem_mem ht)
    rw [this] at hk
    simp at hk
theorem load_is (H : Hp) (a : Int) : (loadM H a).2 = (place H a).isSome := by
  unfold loadM
  cases place H a <;> rfl

end Go.Proofs.Ytnplekfpncjnpaa
