/- The evaluator: EvRel. -/
import Derived.Test.YtfmnoohkllmbmaaGreatDoorEvDef
import Derived.Below
import Derived.Scope
import Derived.Defers
import Derived.Laws.CopyOwn
import Derived.Laws.AppendOwn
import Derived.Deep.MidRow
set_option linter.unusedVariables false
set_option linter.unusedSimpArgs false
namespace Go.Proofs.YtfmnoohkllmbmaaGreatDoor
namespace Ev

/-! ### Tries -/
theorem T.get_single {α : Type} (x : Option α) : ∀ (f k j : Nat), k < f → (T.single x f k).get j = if j = k then x else none
  | 0, k, j, h => by omega
  | f + 1, k, j, h => by
    unfold T.single
    split
    · rename_i hk
      have hk : k = 0 := Nat.eq_of_beq_eq_true hk
      subst hk
      unfold T.get
      split
      · rename_i hj
        have hj : j = 0 := Nat.eq_of_beq_eq_true hj
        simp [hj]
      · rename_i hj
        have hj : j ≠ 0 := Nat.ne_of_beq_eq_false hj
        simp only [hj, if_false]
        split <;> rfl
    · rename_i hk
      have hk : k ≠ 0 := Nat.ne_of_beq_eq_false hk
      split
      · rename_i hp
        have hp : k % 2 = 1 := Nat.eq_of_beq_eq_true hp
        unfold T.get
        split
        · rename_i hj
          have hj : j = 0 := Nat.eq_of_beq_eq_true hj
          rw [if_neg (by omega)]
        · rename_i hj
          have hj : j ≠ 0 := Nat.ne_of_beq_eq_false hj
          split
          · rename_i hq
            have hq : j % 2 = 1 := Nat.eq_of_beq_eq_true hq
            rw [T.get_single x f (k / 2) (j / 2) (by omega)]
            by_cases e : j = k
            · subst e; simp
            · rw [if_neg (by omega), if_neg e]
          · rename_i hq
            have hq : j % 2 ≠ 1 := Nat.ne_of_beq_eq_false hq
            rw [if_neg (by omega)]
            rfl
      · rename_i hp
        have hp : k % 2 ≠ 1 := Nat.ne_of_beq_eq_false hp
        unfold T.get
        split
        · rename_i hj
          have hj : j = 0 := Nat.eq_of_beq_eq_true hj
          rw [if_neg (by omega)]
        · rename_i hj
          have hj : j ≠ 0 := Nat.ne_of_beq_eq_false hj
          split
          · rename_i hq
            have hq : j % 2 = 1 := Nat.eq_of_beq_eq_true hq
            rw [if_neg (by omega)]
            rfl
          · rename_i hq
            have hq : j % 2 ≠ 1 := Nat.ne_of_beq_eq_false hq
            rw [T.get_single x f (k / 2 - 1) (j / 2 - 1) (by omega)]
            by_cases e : j = k
            · subst e; simp
            · rw [if_neg (by omega), if_neg e]

theorem T.get_put {α : Type} (x : Option α) : ∀ (t : T α) (k j : Nat), (T.put x t k).get j = if j = k then x else t.get j
  | .leaf, k, j => by
    unfold T.put
    rw [T.get_single x (k + 1) k j (by omega)]
    rfl
  | .node l v r, k, j => by
    unfold T.put
    split
    · rename_i hk
      have hk : k = 0 := Nat.eq_of_beq_eq_true hk
      subst hk
      by_cases hj : j = 0
      · subst hj; simp [T.get]
      · have hb : Nat.beq j 0 = false := by cases h : Nat.beq j 0 with | false => rfl | true => exact absurd (Nat.eq_of_beq_eq_true h) hj
        simp [T.get, hb, hj]
    · rename_i hk
      have hk : k ≠ 0 := Nat.ne_of_beq_eq_false hk
      by_cases hj : j = 0
      · subst hj
        split <;> simp [T.get, Ne.symm hk]
      · have hb : Nat.beq j 0 = false := by cases h : Nat.beq j 0 with | false => rfl | true => exact absurd (Nat.eq_of_beq_eq_true h) hj
        split
        · rename_i hp
          have hp : k % 2 = 1 := Nat.eq_of_beq_eq_true hp
          simp only [T.get, hb]
          split
          · rename_i hq
            have hq : j % 2 = 1 := Nat.eq_of_beq_eq_true hq
            rw [T.get_put x l (k / 2) (j / 2)]
            by_cases e : j = k
            · subst e; simp
            · rw [if_neg (by omega), if_neg e]
          · rename_i hq
            have hq : j % 2 ≠ 1 := Nat.ne_of_beq_eq_false hq
            rw [if_neg (by omega)]
        · rename_i hp
          have hp : k % 2 ≠ 1 := Nat.ne_of_beq_eq_false hp
          simp only [T.get, hb]
          split
          · rename_i hq
            have hq : j % 2 = 1 := Nat.eq_of_beq_eq_true hq
            rw [if_neg (by omega)]
          · rename_i hq
            have hq : j % 2 ≠ 1 := Nat.ne_of_beq_eq_false hq
            rw [T.get_put x r (k / 2 - 1) (j / 2 - 1)]
            by_cases e : j = k
            · subst e; simp
            · rw [if_neg (by omega), if_neg e]

/-! ### Lists -/
theorem nth_eq {α : Type} : ∀ (l : List α) (k : Nat), nth l k = l[k]?
  | [], _ => by simp [nth]
  | x :: l, 0 => by simp [nth]
  | x :: l, k + 1 => by simp [nth, nth_eq l k]

theorem sub_some {l r : List AV} {k n : Nat} (h : sub l k n = some r) : r = (l.drop k).take n ∧ r.length = n := by
  unfold sub at h
  dsimp only at h
  split at h
  · rename_i hb
    have hb := Nat.eq_of_beq_eq_true hb
    cases h
    exact ⟨rfl, hb⟩
  · cases h

theorem over_some : ∀ (l : List AV) (k : Nat) (xs r : List AV), over l k xs = some r →
    r.length = l.length ∧ k + xs.length ≤ l.length ∧ ∀ j, r[j]? = if k ≤ j ∧ j < k + xs.length then xs[j - k]? else l[j]?
  | l, 0, [], r, h => by
    simp only [over, Option.some.injEq] at h
    subst h
    refine ⟨rfl, by simp, fun j => ?_⟩
    rw [if_neg (by simp)]
  | _ :: l, 0, x :: xs, r, h => by
    unfold over at h
    split at h
    · rename_i r' hr
      cases h
      obtain ⟨h1, h2, h3⟩ := over_some l 0 xs r' hr
      refine ⟨by simp [h1], by simp at h2 ⊢; omega, fun j => ?_⟩
      cases j with
      | zero => simp
      | succ j =>
        have := h3 j
        simp only [List.getElem?_cons_succ, List.length_cons, this]
        by_cases hc : j < xs.length
        · rw [if_pos (by omega), if_pos (by omega)]
          simp
        · rw [if_neg (by omega), if_neg (by omega)]
    · cases h
  | y :: l, k + 1, xs, r, h => by
    unfold over at h
    split at h
    · rename_i r' hr
      cases h
      obtain ⟨h1, h2, h3⟩ := over_some l k xs r' hr
      refine ⟨by simp [h1], by simp at h2 ⊢; omega, fun j => ?_⟩
      cases j with
      | zero => simp
      | succ j =>
        have := h3 j
        simp only [List.getElem?_cons_succ, this]
        by_cases hc : k ≤ j ∧ j < k + xs.length
        · rw [if_pos hc, if_pos (by omega)]
          congr 1
          omega
        · rw [if_neg hc, if_neg (by omega)]
    · cases h
  | [], 0, x :: xs, r, h => by simp [over] at h
  | [], k + 1, xs, r, h => by cases xs <;> simp [over] at h

theorem rep_length (z : List AV) : ∀ n, (rep z n).length = n * z.length
  | 0 => by simp [rep]
  | n + 1 => by simp [rep, rep_length z n, Nat.add_mul, Nat.add_comm]

/-! ### Numbers -/
theorem kindEq_eq {a b : IntKind} (h : kindEq a b = true) : a = b := by cases a <;> cases b <;> first | rfl | cases h
theorem eqI_eq (a b : Int) : eqI a b = (a == b) := by
  cases a <;> cases b <;> simp only [eqI]
  · rename_i a b
    by_cases h : a = b
    · subst h; simp
    · have h1 : Nat.beq a b = false := by cases hh : Nat.beq a b with | false => rfl | true => exact absurd (Nat.eq_of_beq_eq_true hh) h
      rw [h1]; symm; simp; omega
  · symm; simp
  · symm; simp
  · rename_i a b
    by_cases h : a = b
    · subst h; simp
    · have h1 : Nat.beq a b = false := by cases hh : Nat.beq a b with | false => rfl | true => exact absurd (Nat.eq_of_beq_eq_true hh) h
      rw [h1]; symm; simp; omega
theorem leI_eq (a b : Int) : leI a b = decide (a ≤ b) := by
  cases a <;> cases b <;> simp only [leI]
  · rename_i a b
    by_cases h : a ≤ b
    · rw [Nat.ble_eq_true_of_le h]; symm; simp; omega
    · have : Nat.ble a b = false := by cases hh : Nat.ble a b with | false => rfl | true => exact absurd (Nat.le_of_ble_eq_true hh) h
      rw [this]; symm; simp; omega
  · symm; simp; omega
  · symm; simp; omega
  · rename_i a b
    by_cases h : b ≤ a
    · rw [Nat.ble_eq_true_of_le h]; symm; simp; omega
    · have : Nat.ble b a = false := by cases hh : Nat.ble b a with | false => rfl | true => exact absurd (Nat.le_of_ble_eq_true hh) h
      rw [this]; symm; simp; omega
theorem wrapI_eq (k : IntKind) (n : Int) : wrapI k n = k.wrap n := by
  cases k <;> simp only [wrapI]
  split
  · rename_i h
    cases n with
    | ofNat m =>
      simp only [inI64, Nat.blt_eq] at h
      simp only [IntKind.wrap, IntKind.bits, IntKind.signed]
      simp
      omega
    | negSucc m =>
      simp only [inI64, Nat.blt_eq] at h
      simp only [IntKind.wrap, IntKind.bits, IntKind.signed]
      simp
      omega
  · rfl
theorem eqL_eq : ∀ (a b : List Nat), eqL a b = (a == b)
  | [], [] => rfl
  | [], _ :: _ => rfl
  | _ :: _, [] => rfl
  | a :: x, b :: y => by
    simp only [eqL]
    split
    · rename_i h
      have h := Nat.eq_of_beq_eq_true h
      subst h
      rw [eqL_eq x y]
      simp
    · rename_i h
      have h := Nat.ne_of_beq_eq_false h
      simp [h]

end Ev
end Go.Proofs.YtfmnoohkllmbmaaGreatDoor
