/- The text of code: how many lines (plain). -/
import Derived.Test.YtgohnlcgidmlfaaDoorMer
set_option linter.unusedVariables false
set_option linter.unusedSimpArgs false
namespace Go.Proofs.YtgohnlcgidmlfaaDoor
open Go.RowKit

/-- how many bytes 10 -/
def nls (us : List UInt8) : Nat := us.countP (· == 10)
theorem nls_app (a b : List UInt8) : nls (a ++ b) = nls a + nls b := by unfold nls; rw [List.countP_append]
theorem nls_zero {us : List UInt8} (h : ∀ c ∈ us, c ≠ 10) : nls us = 0 := by
  unfold nls
  rw [List.countP_eq_zero]
  intro c hc
  simpa using h c hc
theorem decDigits_no10 (n : Nat) : ∀ c ∈ Lib.decDigits n, c ≠ 10 := by
  induction n using Nat.strongRecOn with
  | ind n ih =>
    intro c hc
    rw [Lib.decDigits] at hc
    split at hc
    · simp only [List.mem_singleton] at hc
      subst hc
      intro h
      have := congrArg UInt8.toNat h
      simp at this
      omega
    · rcases List.mem_append.1 hc with hc | hc
      · exact ih (n / 10) (by omega) c hc
      · simp only [List.mem_singleton] at hc
        subst hc
        intro h
        have := congrArg UInt8.toNat h
        simp at this
        omega
theorem itoa_no10 (x : Int) : ∀ c ∈ Lib.itoa x, c ≠ 10 := by
  intro c hc
  unfold Lib.itoa at hc
  split at hc
  · rcases List.mem_cons.1 hc with rfl | hc
    · decide
    · exact decDigits_no10 _ c hc
  · exact decDigits_no10 _ c hc
theorem nums_no10 (xs : List Int) : ∀ c ∈ nums xs, c ≠ 10 := by
  intro c hc
  unfold nums at hc
  obtain ⟨x, _, hx⟩ := List.mem_flatMap.1 hc
  rcases List.mem_append.1 hx with hx | hx
  · exact itoa_no10 x c hx
  · simp only [List.mem_singleton] at hx; subst hx; decide
/-- parts whose texts hold no byte 10 -/
def Flat (ps : List Pt) : Prop := ∀ t, Pt.s t ∈ ps → ∀ c ∈ t, c ≠ 10
theorem ptsT_no10 {ps : List Pt} (h : Flat ps) : ∀ c ∈ ptsT ps, c ≠ 10 := by
  intro c hc
  unfold ptsT at hc
  obtain ⟨p, hp, hx⟩ := List.mem_flatMap.1 hc
  cases p with
  | s t =>
    rcases List.mem_append.1 hx with hx | hx
    · exact h t hp c hx
    · simp only [List.mem_singleton] at hx; subst hx; decide
  | n x =>
    rcases List.mem_append.1 hx with hx | hx
    · exact itoa_no10 x c hx
    · simp only [List.mem_singleton] at hx; subst hx; decide
  | l xs => exact nums_no10 xs c hx
theorem lineT_nls {ps : List Pt} (h : Flat ps) : nls (lineT ps) = 1 := by
  unfold lineT
  rw [nls_app, nls_zero (fun c hc => ptsT_no10 h c (List.dropLast_subset _ hc))]
  rfl
theorem kname_no10 : ∀ k, ∀ c ∈ kname k, c ≠ 10 := by
  intro k
  unfold kname
  split <;> decide
theorem opT_nls (k : Nat) (O : Opx) : nls (opT k O) = 1 := by
  unfold opT
  apply lineT_nls
  intro t ht
  rcases List.mem_append.1 ht with ht | ht
  · simp [opPts] at ht
    subst ht
    exact kname_no10 _
  · unfold wayPts at ht
    split at ht
    · simp at ht
    · split at ht <;> · simp at ht; subst ht; decide
theorem opsU_nls (xs : List Opx) : ∀ n, n ≤ xs.length → nls (opsU xs n) = n
  | 0, _ => rfl
  | n + 1, h => by rw [opsU_succ (by omega), nls_app, opsU_nls xs n (by omega), opT_nls]
theorem fnT_nls (i : Nat) (f : Fn) : nls (fnT i f) = 1 + f.code.length := by
  unfold fnT
  rw [nls_app, opsU_nls _ _ (Nat.le_refl _), lineT_nls]
  intro t ht
  simp [funcPts] at ht
  subst ht
  decide
theorem showU_nls (m : Mo) : ∀ n, n ≤ m.funcs.length → nls (showU m n) = n + sumN (m.funcs.take n)
  | 0, _ => rfl
  | n + 1, h => by
    rw [showU_succ (by omega), nls_app, showU_nls m n (by omega), fnT_nls, (sumN_take (fs := m.funcs) (i := n) (by omega)).1]
    omega
/-- a line for each function and each operation -/
theorem showU_lines (m : Mo) : (nls (showU m m.funcs.length) : Int) = (m.funcs.length : Int) + sumC m.funcs := by
  rw [showU_nls m _ (Nat.le_refl _), List.take_length, ← sumN_c]
  omega

end Go.Proofs.YtgohnlcgidmlfaaDoor
