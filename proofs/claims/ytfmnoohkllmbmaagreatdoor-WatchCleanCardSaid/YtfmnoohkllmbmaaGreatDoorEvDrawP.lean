/- The evaluator: EvDrawP. -/
import Derived.Test.YtfmnoohkllmbmaaGreatDoorEvOpsP
set_option linter.unusedVariables false
set_option linter.unusedSimpArgs false
namespace Go.Proofs.YtfmnoohkllmbmaaGreatDoor
namespace Ev
open Go.RowKit

/-! ### Sets of operations as numbers -/
theorem bit_eq (s i : Nat) : bit s i = s.testBit i := by
  unfold bit
  have h : Nat.land (Nat.shiftRight s i) 1 = s / 2 ^ i % 2 := by
    show (s >>> i) &&& 1 = _
    rw [Nat.and_one_is_mod, Nat.shiftRight_eq_div_pow]
  rw [h, Nat.testBit_eq_decide_div_mod_eq]
  by_cases hh : s / 2 ^ i % 2 = 1
  · rw [hh]; rfl
  · have : Nat.beq (s / 2 ^ i % 2) 1 = false := by cases hb : Nat.beq (s / 2 ^ i % 2) 1 with | false => rfl | true => exact absurd (Nat.eq_of_beq_eq_true hb) hh
    rw [this]
    simp [hh]

theorem within_ok {b s : Nat} (h : within b s = true) (j : Nat) (hj : b.testBit j = true) : s.testBit j = true := by
  unfold within at h
  have h := Nat.eq_of_beq_eq_true h
  have : (b &&& s).testBit j = true := by
    show (Nat.land b s).testBit j = true
    rw [h]
    exact hj
  rw [Nat.testBit_and] at this
  simp at this
  exact this.2

theorem testBit_add (s i j : Nat) : (Nat.lor s (2 ^ i)).testBit j = (s.testBit j || decide (i = j)) := by
  show (s ||| 2 ^ i).testBit j = _
  rw [Nat.testBit_or, Nat.testBit_two_pow]

def bb (bef : List Nat) (i j : Nat) : Prop := ∃ b, nth bef i = some b ∧ b.testBit j = true

theorem befOf_ok (bef : List Nat) (i : Nat) : ∀ (es : List Edge) (s b : Nat), befOf bef i es s = some b →
    (∀ j, b.testBit j = true ↔ s.testBit j = true ∨ ∃ e ∈ es, Region.binds .any e = true ∧ (e.on = j ∨ bb bef e.on j)) ∧ (∀ e ∈ es, Region.binds .any e = true → e.on < i)
  | [], s, b, h => by
    simp only [befOf, Option.some.injEq] at h
    subst h
    exact ⟨fun j => by simp, fun e he => by cases he⟩
  | e :: es, s, b, h => by
    simp only [befOf] at h
    split at h
    · rename_i hb
      obtain ⟨h1, h2⟩ := befOf_ok bef i es s b h
      refine ⟨fun j => ?_, fun e' he' hb' => ?_⟩
      · rw [h1 j]
        constructor
        · rintro (h | ⟨e', he', hr⟩)
          · exact .inl h
          · exact .inr ⟨e', by simp [he'], hr⟩
        · rintro (h | ⟨e', he', hr⟩)
          · exact .inl h
          · cases he' with
            | head => rw [hb] at hr; cases hr.1
            | tail _ he' => exact .inr ⟨e', he', hr⟩
      · cases he' with
        | head => rw [hb] at hb'; cases hb'
        | tail _ he' => exact h2 e' he' hb'
    · rename_i hb
      split at h
      · rename_i b0 hlt hn
        rw [Nat.blt_eq] at hlt
        obtain ⟨h1, h2⟩ := befOf_ok bef i es _ b h
        refine ⟨fun j => ?_, fun e' he' hb' => ?_⟩
        · rw [h1 j]
          have e1 : (Nat.lor (Nat.lor s (2 ^ e.on)) b0).testBit j = (s.testBit j || decide (e.on = j) || b0.testBit j) := by
            show ((Nat.lor s (2 ^ e.on)) ||| b0).testBit j = _
            rw [Nat.testBit_or, testBit_add]
          rw [e1]
          simp only [Bool.or_eq_true, decide_eq_true_eq]
          constructor
          · rintro (((h | h) | h) | ⟨e', he', hr⟩)
            · exact .inl h
            · exact .inr ⟨e, by simp, hb, .inl h⟩
            · exact .inr ⟨e, by simp, hb, .inr ⟨b0, hn, h⟩⟩
            · exact .inr ⟨e', by simp [he'], hr⟩
          · rintro (h | ⟨e', he', hr1, hr2⟩)
            · exact .inl (.inl (.inl h))
            · cases he' with
              | head =>
                rcases hr2 with h | ⟨b1, hb1, h⟩
                · exact .inl (.inl (.inr h))
                · rw [hn] at hb1
                  cases hb1
                  exact .inl (.inr h)
              | tail _ he' => exact .inr ⟨e', he', hr1, hr2⟩
        · cases he' with
          | head => exact hlt
          | tail _ he' => exact h2 e' he' hb'
      · cases h

/-- what the checks of a region say -/
structure SF (E : Env) (ops : Array Oper) (bef : List Nat) : Prop where
  sets : ∀ (i : Nat) (o : Oper), ops[i]? = some o → ∃ b, nth bef i = some b ∧ (∀ j, b.testBit j = true ↔ ∃ e ∈ o.after.toList, Region.binds .any e = true ∧ (e.on = j ∨ bb bef e.on j)) ∧
    (∀ e ∈ o.after.toList, Region.binds .any e = true → e.on < i)
  dst : ∀ (i j : Nat) (oi oj : Oper) (d : Nat), ops[i]? = some oi → ops[j]? = some oj → oi.dst = some d → oj.dst = some d → i = j
  tmp : ∀ (j : Nat) (oj : Oper), ops[j]? = some oj → ∀ t ∈ tmpsOf ops.toList oj, ∀ (i : Nat) (oi : Oper), ops[i]? = some oi → oi.dst = some t → i = j ∨ bb bef j i ∨ bb bef i j

theorem okBef_ok (bef : List Nat) : ∀ (l : List Oper) (k : Nat), okBef bef l k = true → ∀ (i : Nat) (o : Oper), l[i]? = some o → ∃ b, nth bef (k + i) = some b ∧ befOf bef (k + i) o.after.toList 0 = some b
  | [], k, _, i, o, h => by simp at h
  | x :: l, k, h, i, o, hi => by
    simp only [okBef] at h
    split at h
    · rename_i b b' hb hb'
      split at h
      · rename_i hbb
        have hbb := Nat.eq_of_beq_eq_true hbb
        cases i with
        | zero =>
          simp at hi
          subst hi
          exact ⟨b, hb, by rw [hbb]; exact hb'⟩
        | succ i =>
          simp at hi
          have := okBef_ok bef l (k + 1) h i o hi
          rw [show k + (i + 1) = k + 1 + i by omega]
          exact this
      · cases h
    · cases h

theorem dstFree_ok (d : Nat) : ∀ (l : List Oper), dstFree d l = true → ∀ o ∈ l, o.dst ≠ some d
  | [], _, o, h => by cases h
  | x :: l, h, o, ho => by
    simp only [dstFree] at h
    cases ho with
    | head =>
      split at h
      · rename_i e he
        split at h
        · cases h
        · rename_i hn
          rw [he]
          intro hh
          cases hh
          exact Nat.ne_of_beq_eq_false hn rfl
      · rename_i he
        rw [he]
        simp
    | tail _ ho =>
      split at h
      · split at h
        · cases h
        · exact dstFree_ok d l h o ho
      · exact dstFree_ok d l h o ho

theorem okDsts_ok : ∀ (l : List Oper), okDsts l = true → ∀ (i j : Nat) (oi oj : Oper) (d : Nat), l[i]? = some oi → l[j]? = some oj → oi.dst = some d → oj.dst = some d → i = j
  | [], _, i, j, oi, oj, d, h, _, _, _ => by simp at h
  | x :: l, h, i, j, oi, oj, d, hi, hj, hdi, hdj => by
    simp only [okDsts] at h
    have rest : okDsts l = true := by
      split at h
      · split at h
        · exact h
        · cases h
      · exact h
    have hd : ∀ o ∈ l, x.dst = some d → o.dst ≠ some d := fun o ho hx => by
      rw [hx] at h
      simp only at h
      split at h
      · rename_i hf
        exact dstFree_ok d l hf o ho
      · cases h
    cases i with
    | zero =>
      simp at hi
      subst hi
      cases j with
      | zero => rfl
      | succ j =>
        simp at hj
        exact absurd hdj (hd oj (List.mem_of_getElem? hj) hdi)
    | succ i =>
      simp at hi
      cases j with
      | zero =>
        simp at hj
        subst hj
        exact absurd hdi (hd oi (List.mem_of_getElem? hi) hdj)
      | succ j =>
        simp at hj
        rw [okDsts_ok l rest i j oi oj d hi hj hdi hdj]

theorem okTmp_ok (bef : List Nat) (b j t : Nat) : ∀ (l : List Oper) (k : Nat), okTmp bef b j t l k = true → ∀ (i : Nat) (o : Oper), l[i]? = some o → o.dst = some t → k + i = j ∨ b.testBit (k + i) = true ∨ bb bef (k + i) j
  | [], k, _, i, o, h, _ => by simp at h
  | x :: l, k, h, i, o, hi, hd => by
    simp only [okTmp] at h
    cases i with
    | zero =>
      simp at hi
      subst hi
      rw [hd] at h
      simp only [Nat.add_zero]
      have hbeq : Nat.beq t t = true := Nat.beq_refl t
      simp only [hbeq] at h
      split at h
      · rename_i hk; exact .inl (Nat.eq_of_beq_eq_true hk)
      · split at h
        · rename_i hb; rw [bit_eq] at hb; exact .inr (.inl hb)
        · split at h
          · rename_i bi hbi
            split at h
            · rename_i hb; rw [bit_eq] at hb; exact .inr (.inr ⟨bi, hbi, hb⟩)
            · cases h
          · cases h
    | succ i =>
      simp at hi
      have rest : okTmp bef b j t l (k + 1) = true := by
        revert h
        split
        · exact id
        · split
          · exact id
          · split
            · exact id
            · split
              · exact id
              · split
                · split
                  · exact id
                  · intro h; cases h
                · intro h; cases h
      have := okTmp_ok bef b j t l (k + 1) rest i o hi hd
      rw [show k + (i + 1) = k + 1 + i by omega]
      exact this

theorem okTmps_ok (bef : List Nat) (all : List Oper) : ∀ (l : List Oper) (k : Nat), okTmps bef all l k = true → ∀ (j : Nat) (oj : Oper), l[j]? = some oj → ∀ t ∈ tmpsOf all oj, ∀ (i : Nat) (oi : Oper), all[i]? = some oi → oi.dst = some t →
    i = k + j ∨ bb bef (k + j) i ∨ bb bef i (k + j)
  | [], k, _, j, oj, h => by simp at h
  | x :: l, k, h, j, oj, hj => by
    simp only [okTmps] at h
    split at h
    · cases h
    · rename_i b hb
      simp only [Bool.and_eq_true, List.all_eq_true] at h
      cases j with
      | zero =>
        simp at hj
        subst hj
        intro t ht i oi hi hd
        have := okTmp_ok bef b k t all 0 (h.1 t ht) i oi hi hd
        simp only [Nat.zero_add] at this
        rcases this with h1 | h1 | h1
        · exact .inl h1
        · exact .inr (.inl ⟨b, hb, h1⟩)
        · exact .inr (.inr h1)
      | succ j =>
        simp at hj
        have := okTmps_ok bef all l (k + 1) h.2 j oj hj
        rw [show k + (j + 1) = k + 1 + j by omega]
        exact this

theorem sf_ok {E : Env} {ops : Array Oper} {bef : List Nat} (h1 : okBef bef ops.toList 0 = true) (h2 : okDsts ops.toList = true) (h3 : okTmps bef ops.toList ops.toList 0 = true) : SF E ops bef := by
  have get : ∀ (i : Nat) (o : Oper), ops[i]? = some o → ops.toList[i]? = some o := fun i o h => by rw [Array.getElem?_toList]; exact h
  refine ⟨fun i o hi => ?_, fun i j oi oj d hi hj hdi hdj => okDsts_ok _ h2 i j oi oj d (get i oi hi) (get j oj hj) hdi hdj, fun j oj hj t ht i oi hi hd => ?_⟩
  · obtain ⟨b, hb, hb'⟩ := okBef_ok bef _ 0 h1 i o (get i o hi)
    simp only [Nat.zero_add] at hb hb'
    obtain ⟨g1, g2⟩ := befOf_ok bef i _ 0 b hb'
    exact ⟨b, hb, fun j => by rw [g1 j]; simp, g2⟩
  · have := okTmps_ok bef _ _ 0 h3 j oj (get j oj hj) t ht i oi (get i oi hi) hd
    simpa using this

end Ev
end Go.Proofs.YtfmnoohkllmbmaaGreatDoor
