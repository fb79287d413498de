/- Kb -/
import Derived.Test.YtihjdfbdpcghdaaDoorZa6
import Derived.Test.YtihjdfbdpcghdaaDoorZa7
import Derived.IntWalk
set_option linter.unusedVariables false
set_option linter.unusedSimpArgs false
namespace Go.Proofs.YtihjdfbdpcghdaaDoor
open Go.RowKit
theorem refArgs_any (k : Int) (w : World) : Calls Tryd.prog 36 #[.int .i64 k] w fun e w' => e = .returned (.int .i64 (argsN k : Nat)) ∧ w' = w := by
  by_cases h1 : k = 5 ∨ k = 8 ∨ k = 9 ∨ k = 12
  · have e : argsN k = 1 := by unfold argsN; rw [if_pos h1]
    rw [e]
    rcases h1 with rfl | rfl | rfl | rfl
    all_goals
      go_enter Tryd.func36, Tryd.ntmps36
      go_wp2
      go_ret
      exact ⟨rfl, rfl⟩
  · by_cases h2 : k = 6 ∨ k = 10
    · have e : argsN k = 2 := by unfold argsN; rw [if_neg h1, if_pos h2]
      rw [e]
      rcases h2 with rfl | rfl
      all_goals
        go_enter Tryd.func36, Tryd.ntmps36
        go_wp2
        go_ret
        exact ⟨rfl, rfl⟩
    · by_cases h3 : k = 7
      · subst h3
        go_enter Tryd.func36, Tryd.ntmps36
        go_wp2
        go_ret
        exact ⟨rfl, rfl⟩
      · have e : argsN k = 0 := by unfold argsN; rw [if_neg h1, if_neg h2, if_neg h3]
        rw [e]
        have q5 : (k == 5) = false := by simp; omega
        have q8 : (k == 8) = false := by simp; omega
        have q9 : (k == 9) = false := by simp; omega
        have q12 : (k == 12) = false := by simp; omega
        have q6 : (k == 6) = false := by simp; omega
        have q10 : (k == 10) = false := by simp; omega
        have q7 : (k == 7) = false := by simp; omega
        clear h1 h2 h3 e
        go_enter Tryd.func36, Tryd.ntmps36
        go_wp2
        go_ret
        exact ⟨rfl, rfl⟩
theorem refBehind_any (k : Int) (w : World) : Calls Tryd.prog 37 #[.int .i64 k] w fun e w' => e = .returned (.bool (behindB k)) ∧ w' = w := by
  by_cases h1 : k = 5 ∨ k = 6 ∨ k = 7
  · have e : behindB k = true := by unfold behindB; simpa using h1
    rw [e]
    rcases h1 with rfl | rfl | rfl
    all_goals
      go_enter Tryd.func37, Tryd.ntmps37
      go_wp2
      go_ret
      exact ⟨rfl, rfl⟩
  · have e : behindB k = false := by unfold behindB; simpa using h1
    rw [e]
    have q5 : (k == 5) = false := by simp; omega
    have q6 : (k == 6) = false := by simp; omega
    have q7 : (k == 7) = false := by simp; omega
    clear h1 e
    go_enter Tryd.func37, Tryd.ntmps37
    go_wp2
    go_ret
    exact ⟨rfl, rfl⟩
end Go.Proofs.YtihjdfbdpcghdaaDoor
