/- What weighs no more than the limit is small, and its copy is itself. -/
import Derived.Test.YtadkimnpeachpaaGreatDoorUe
set_option linter.unusedVariables false
namespace Go.Proofs.YtadkimnpeachpaaGreatDoor
open Go.RowKit

mutual
theorem weigh_pos : ∀ (e : Ex) (m d : Int), 0 ≤ m → 1 ≤ weigh e m d
  | .mk k p n s xs, m, d, h => by
    rw [weigh]
    split
    · omega
    · have := weighs_mono xs (1 + (s.length : Int)) m d
      omega
theorem weighs_mono : ∀ (es : List Ex) (n m d : Int), n ≤ weighs es n m d
  | [], n, m, d => by rw [weighs]; exact Int.le_refl _
  | e :: es, n, m, d => by
    rw [weighs]
    split
    · rename_i hle
      have h1 := weigh_pos e (m - n) (d - 1) (by omega)
      have h2 := weighs_mono es (n + weigh e (m - n) (d - 1)) m d
      omega
    · exact Int.le_refl _
end
mutual
theorem weigh_light : ∀ (e : Ex) (m d cd : Int) (N : Nat), weigh e m d ≤ m → 0 ≤ d → d ≤ cd → m ≤ (N : Int) → smallE N e ∧ copyE e cd = e
  | .mk k p n s xs, m, d, cd, N, h, h0, h1, h2 => by
    rw [weigh] at h
    rw [smallE, copyE]
    split at h
    · omega
    · rename_i hne
      have hm := weighs_mono xs (1 + (s.length : Int)) m d
      cases xs with
      | nil => exact ⟨⟨by omega, by simp, by rw [smallEs]; trivial⟩, by rw [copyEs]⟩
      | cons x xs =>
        have hd : 0 < d := by
          rcases Int.lt_or_le 0 d with h3 | h3
          · exact h3
          · exact absurd ⟨by omega, by simp⟩ hne
        obtain ⟨a1, a2, a3⟩ := weighs_light (x :: xs) (1 + (s.length : Int)) m d cd N h (by omega) hd h1 h2
        exact ⟨⟨by omega, by omega, a2⟩, by rw [a3]⟩
theorem weighs_light : ∀ (es : List Ex) (n m d cd : Int) (N : Nat), weighs es n m d ≤ m → 0 ≤ n → 0 < d → d ≤ cd → m ≤ (N : Int) → n + (es.length : Int) ≤ m ∧ smallEs N es ∧ copyEs es cd = es
  | [], n, m, d, cd, N, h, h0, h1, h2, h3 => by
    rw [weighs] at h
    exact ⟨by simpa using h, by rw [smallEs]; trivial, by rw [copyEs]⟩
  | e :: es, n, m, d, cd, N, h, h0, h1, h2, h3 => by
    rw [weighs] at h
    split at h
    · rename_i hle
      have p1 := weigh_pos e (m - n) (d - 1) (by omega)
      have p2 := weighs_mono es (n + weigh e (m - n) (d - 1)) m d
      obtain ⟨a1, a2⟩ := weigh_light e (m - n) (d - 1) (cd - 1) N (by omega) (by omega) (by omega) (by omega)
      obtain ⟨b1, b2, b3⟩ := weighs_light es _ m d cd N h (by omega) h1 h2 h3
      refine ⟨by simp; omega, by rw [smallEs]; exact ⟨a1, b2⟩, by rw [copyEs, if_pos (by omega), a2, b3]⟩
    · omega
end

end Go.Proofs.YtadkimnpeachpaaGreatDoor
