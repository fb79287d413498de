/- The evaluator: EvDraw3P. -/
import Derived.Test.YtfmnoohkllmbmaaGreatDoorEvDraw2P
set_option linter.unusedVariables false
set_option linter.unusedSimpArgs false
namespace Go.Proofs.YtfmnoohkllmbmaaGreatDoor
namespace Ev
open Go.RowKit

theorem rd_mono {h h' : T ABk} (hh : ∀ i x, h.get i = some x → h'.get i = some x) {b o n : Nat} {xs : List AV} (he : rd h b o n = some xs) : rd h' b o n = some xs := by
  unfold rd at he ⊢
  split at he
  · rename_i hg
    rw [hh _ _ hg]
    exact he
  · cases he

theorem evPure_mono {E : Env} {r : Operand → Option AV} {h h' : T ABk} (hh : ∀ i x, h.get i = some x → h'.get i = some x) {o : Oper} (hk : kindOf E o = .read) {v : AV} (he : evPure E r h o = some v) : evPure E r h' o = some v := by
  obtain ⟨dst, op, type, pos, after, guard⟩ := o
  cases op
  case load t x =>
    simp only [evPure] at he ⊢
    split at he
    · rename_i b o ti hx hti
      split at he
      · cases hr : rd h b o ti.size with
        | none => rw [hr] at he; cases he
        | some xs => rw [hr] at he; rw [rd_mono hh hr]; exact he
      · split at he
        · rename_i hg
          rw [hh _ _ hg]
          exact he
        · cases he
    · cases he
  case lookup t x i ok =>
    simp only [evPure] at he ⊢
    split at he
    · rename_i vx key ti hx hi hti
      split at he
      · rename_i k e hd
        split at he
        · cases he
        · rename_i ei hei
          cases hko : keyOk E 20 k key with
          | false => rw [hko] at he; exact he
          | true =>
            rw [hko] at he
            dsimp only at he ⊢
            cases vx with
            | map b =>
              dsimp only at he ⊢
              cases hg : h.get b with
              | none => rw [hg] at he; dsimp only at he; rw [lookAns_none] at he; cases he
              | some bk =>
                rw [hg] at he
                rw [hh _ _ hg]
                exact he
            | _ => exact he
      · cases he
    · cases he
  case call cl =>
    obtain ⟨callee, args, argTypes⟩ := cl
    cases callee with
    | value f => simp [kindOf] at hk
    | invoke a b => simp [kindOf] at hk
    | builtin b =>
      simp only [evPure] at he ⊢
      split at he
      · cases he
      · rename_i l hl
        cases b <;> try (simp [kindOf] at hk; done)
        split at he <;> try (rename_i heq _; cases heq; done)
        · rename_i heq
          split at he
          · rename_i t ht
            unfold evLen at he ⊢
            split at he
            · cases he
            · rename_i ti hti
              split at he <;> try exact he
              split at he
              · rename_i hg
                rw [hh _ _ hg]
                exact he
              · cases he
          · cases he
        all_goals first | (cases he; done) | (rename_i heq; cases heq; done) | skip
  all_goals (simp [kindOf] at hk)
  all_goals (try (split at hk <;> try (cases hk; done)))
  all_goals (try (split at hk <;> try (cases hk; done)))

end Ev
end Go.Proofs.YtfmnoohkllmbmaaGreatDoor
