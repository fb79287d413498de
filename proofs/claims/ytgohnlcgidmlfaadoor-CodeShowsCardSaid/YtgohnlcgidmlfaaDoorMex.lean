/- Code that was right and is bent at one place is wrong (plain). -/
import Derived.Test.YtgohnlcgidmlfaaDoorMer
set_option linter.unusedVariables false
set_option linter.unusedSimpArgs false
namespace Go.Proofs.YtgohnlcgidmlfaaDoor
open Go.RowKit

theorem right_all {m : Mo} (h : rightM m = true) : (∀ f ∈ m.funcs, fnB f = true) ∧ (∀ x ∈ m.threads, stB m x = true) ∧ ∀ f ∈ m.funcs, ∀ O ∈ f.code, opB m f (sumS m.globals) O = true := by
  unfold rightM funcsM opsM at h
  simp only [Bool.and_eq_true, List.all_eq_true] at h
  exact ⟨h.1.2.1.2, h.1.2.2, h.2⟩
/-- the function at a place, and its operation, in place of those -/
def setF (m : Mo) (i : Nat) (F : Fn) : Mo := { m with funcs := m.funcs.set i F }
def setO (m : Mo) (i k : Nat) (f : Fn) (O : Opx) : Mo := setF m i { f with code := f.code.set k O }
theorem wrong_fn {m : Mo} {i : Nat} {F : Fn} (hi : i < m.funcs.length) (hF : fnB F = false) : rightM (setF m i F) = false := by
  cases h : rightM (setF m i F) with
  | false => rfl
  | true =>
    have := (right_all h).1 F (by unfold setF; exact List.mem_set hi F)
    rw [hF] at this
    exact this.symm
theorem wrong_op {m : Mo} {i k : Nat} {f : Fn} {O : Opx} (hi : i < m.funcs.length) (hk : k < f.code.length) (hO : ∀ n, opB (setO m i k f O) { f with code := f.code.set k O } n O = false) : rightM (setO m i k f O) = false := by
  cases h : rightM (setO m i k f O) with
  | false => rfl
  | true =>
    have := (right_all h).2.2 { f with code := f.code.set k O } (by unfold setO setF; exact List.mem_set hi _) O (List.mem_set hk O)
    rw [hO] at this
    exact this.symm
theorem rg_not {lo hi x : Int} (h : ¬ (lo ≤ x ∧ x ≤ hi)) : rg lo hi x = false := by unfold rg; simpa using h
variable {m : Mo} {i k : Nat} {f : Fn} {O : Opx}
theorem bent_0 (hi : i < m.funcs.length) (hk : k < f.code.length) : rightM (setO m i k f { O with kind := 24 }) = false := by
  apply wrong_op hi hk
  intro n
  cases h : opB (setO m i k f { O with kind := 24 }) { f with code := f.code.set k { O with kind := 24 } } n { O with kind := 24 } with
  | false => rfl
  | true => have := opB_kind h; dsimp only at this; omega
theorem bent_1 (hi : i < m.funcs.length) (hk : k < f.code.length) (h23 : O.kind ≠ 23) : rightM (setO m i k f { O with next := (f.code.length : Int) }) = false := by
  apply wrong_op hi hk
  intro n
  have : waysB { f with code := f.code.set k { O with next := (f.code.length : Int) } } { O with next := (f.code.length : Int) } = false := by
    unfold waysB
    dsimp only
    rw [if_neg h23, List.length_set, rg_not (by omega)]
    simp
  unfold opB
  rw [this, Bool.and_false]
theorem bent_2 (hi : i < m.funcs.length) (hk : k < f.code.length) (h21 : O.kind ≠ 21) : rightM (setO m i k f { O with els := 1 }) = false := by
  apply wrong_op hi hk
  intro n
  have : waysB { f with code := f.code.set k { O with els := 1 } } { O with els := 1 } = false := by
    unfold waysB
    dsimp only
    rw [if_neg h21, rg_not (lo := 0) (hi := 0) (x := 1) (by omega)]
    simp
  unfold opB
  rw [this, Bool.and_false]
theorem bent_2' (hi : i < m.funcs.length) (hk : k < f.code.length) (h21 : O.kind = 21) : rightM (setO m i k f { O with els := -1 }) = false := by
  apply wrong_op hi hk
  intro n
  have : waysB { f with code := f.code.set k { O with els := -1 } } { O with els := -1 } = false := by
    unfold waysB
    dsimp only
    rw [if_neg (by omega), if_pos h21, rg_not (x := -1) (by omega), Bool.and_false]
  unfold opB
  rw [this, Bool.and_false]
theorem bent_4 (hi : i < m.funcs.length) (hk : k < f.code.length) (hkd : O.kind = 5 ∨ O.kind = 6 ∨ O.kind = 21) : rightM (setO m i k f { O with a := f.regs }) = false := by
  apply wrong_op hi hk
  intro n
  have : fieldsB (setO m i k f { O with a := f.regs }) { f with code := f.code.set k { O with a := f.regs } } n { O with a := f.regs } = false := by
    unfold fieldsB
    dsimp only
    rw [if_neg (by omega), if_neg (by omega)]
    have : knJ (hiM (setO m i k f { O with a := f.regs }) { f with code := f.code.set k { O with a := f.regs } } n O.kind).2 (hiM (setO m i k f { O with a := f.regs }) { f with code := f.code.set k { O with a := f.regs } } n O.kind).1 [f.regs, O.b, O.c, O.d, O.e, O.f] 6 = false := by
      have hr : rg 0 (f.regs - 1) f.regs = false := rg_not (by omega)
      unfold knJ hiM hiL
      rcases hkd with h | h | h <;> simp [h, hr]
    rw [this, Bool.false_and]
  unfold opB
  rw [this, Bool.false_and, Bool.false_and]
theorem bent_5 : rightM { m with threads := m.threads ++ [(m.funcs.length : Int)] } = false := by
  cases h : rightM { m with threads := m.threads ++ [(m.funcs.length : Int)] } with
  | false => rfl
  | true =>
    have := (right_all h).2.1 (m.funcs.length : Int) (by simp)
    unfold stB at this
    dsimp only at this
    rw [rg_not (by omega)] at this
    simp at this
theorem bent_6 (hi : i < m.funcs.length) : rightM (setF m i { f with result := 3 }) = false :=
  wrong_fn hi (by unfold fnB; dsimp only; rw [rg_not (lo := 0) (hi := 2) (x := 3) (by omega)]; simp)
theorem bent_7 (hi : i < m.funcs.length) : rightM (setF m i { f with code := [] }) = false :=
  wrong_fn hi (by unfold fnB; simp)
theorem bent_3 (hi : i < m.funcs.length) (hf : m.funcs[i] = f) (hk : k < f.code.length) (hO : f.code[k] = O) (h : rightM m = true) : rightM (setO m i k f { O with args := O.args ++ [0] }) = false := by
  have h1 := (right_all h).2.2 f (hf ▸ List.getElem_mem hi) O (hO ▸ List.getElem_mem hk)
  apply wrong_op hi hk
  intro n
  have h2 : (O.args.length : Int) = countB m f O := by
    unfold opB argsB at h1
    simp only [Bool.and_eq_true, decide_eq_true_eq] at h1
    exact h1.1.2.1
  have h3 : countB (setO m i k f { O with args := O.args ++ [0] }) { f with code := f.code.set k { O with args := O.args ++ [0] } } { O with args := O.args ++ [0] } = countB m f O := by
    unfold countB
    dsimp only
    have : ((calledB (setO m i k f { O with args := O.args ++ [0] }) O.a).map (·.params)).getD 0 = ((calledB m O.a).map (·.params)).getD 0 := by
      unfold calledB setO setF
      dsimp only
      by_cases e : i = O.a.toNat
      · rw [← e, List.getElem?_set_self hi, List.getElem?_eq_getElem hi, hf]
        rfl
      · rw [List.getElem?_set_ne e]
    rw [this]
  have h4 : argsB (setO m i k f { O with args := O.args ++ [0] }) { f with code := f.code.set k { O with args := O.args ++ [0] } } { O with args := O.args ++ [0] } = false := by
    unfold argsB
    rw [h3, ← h2]
    simp
    omega
  unfold opB
  rw [h4, Bool.and_false, Bool.false_and]

end Go.Proofs.YtgohnlcgidmlfaaDoor
