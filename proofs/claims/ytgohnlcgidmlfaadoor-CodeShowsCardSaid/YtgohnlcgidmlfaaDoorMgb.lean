/- The document's own rule for an operation (plain). -/
import Derived.Test.YtgohnlcgidmlfaaDoorMga
set_option linter.unusedVariables false
set_option linter.unusedSimpArgs false
namespace Go.Proofs.YtgohnlcgidmlfaaDoor
open Go.RowKit

/-- a letter's bounds: at least, and below -/
def bnd (m : Mo) (F : Fn) (n : Int) (c : Nat) : Int × Int :=
  if c = 46 then (0, 1)
  else if c = 114 then (0, F.regs)
  else if c = 105 then (0, (m.inputs.length : Int))
  else if c = 104 then (0, (m.hatches.length : Int))
  else if c = 119 then (0, n)
  else if c = 115 then (0, (m.structs.length : Int))
  else if c = 108 then (0, (m.locks.length : Int))
  else if c = 99 then (0, (m.chans.length : Int))
  else if c = 111 then (0, (m.sinks.length : Int))
  else if c = 102 then (0, (m.funcs.length : Int))
  else if c = 107 then (0, 2)
  else if c = 117 then (1, 3)
  else if c = 98 then (1, 12)
  else if c = 103 then (0, 16)
  else (0, 0)
def fok (m : Mo) (F : Fn) (n : Int) (c : Nat) (x : Int) : Bool := decide (c = 100 ∨ c = 110) || decide ((bnd m F n c).1 ≤ x ∧ x < (bnd m F n c).2)
def fl (O : Opx) : List Int := [O.a, O.b, O.c, O.d, O.e, O.f, O.k]
def fokAt (m : Mo) (F : Fn) (n : Int) (O : Opx) (j : Nat) : Bool := fok m F n ((shT O.kind)[j]?.getD 0).toNat ((fl O)[j]?.getD 0)
def allOk (m : Mo) (F : Fn) (n : Int) (O : Opx) : Bool := (List.range 7).all (fokAt m F n O)
def cutOk (O : Opx) : Bool := !decide ((O.kind = 10 ∨ O.kind = 15) ∧ O.a = O.b)
theorem kinds23 {k : Int} (h : 1 ≤ k ∧ k ≤ 23) : k = 1 ∨ k = 2 ∨ k = 3 ∨ k = 4 ∨ k = 5 ∨ k = 6 ∨ k = 7 ∨ k = 8 ∨ k = 9 ∨ k = 10 ∨ k = 11 ∨ k = 12 ∨ k = 13 ∨ k = 14 ∨ k = 15 ∨ k = 16 ∨ k = 17 ∨ k = 18 ∨ k = 19 ∨ k = 20 ∨ k = 21 ∨ k = 22 ∨ k = 23 := by omega
theorem sh_seven {k : Int} (h : 1 ≤ k ∧ k ≤ 23) : (shT k).length = 7 := by
  rcases kinds23 h with rfl | rfl | rfl | rfl | rfl | rfl | rfl | rfl | rfl | rfl | rfl | rfl | rfl | rfl | rfl | rfl | rfl | rfl | rfl | rfl | rfl | rfl | rfl <;> rfl
theorem sh_none {k : Int} (h : ¬ (1 ≤ k ∧ k ≤ 23)) : shT k = [] := by unfold shT; rw [if_neg h]
def letters : List Nat := [100, 110, 46, 114, 105, 104, 119, 115, 108, 99, 111, 102, 107, 117, 98, 103]
theorem sh_letter {k : Int} (h : 1 ≤ k ∧ k ≤ 23) : ∀ c ∈ shT k, c.toNat ∈ letters := by
  rcases kinds23 h with rfl | rfl | rfl | rfl | rfl | rfl | rfl | rfl | rfl | rfl | rfl | rfl | rfl | rfl | rfl | rfl | rfl | rfl | rfl | rfl | rfl | rfl | rfl <;> decide
set_option maxHeartbeats 2000000 in
theorem fields_ref {m : Mo} {F : Fn} {n : Int} {O : Opx} (h : 1 ≤ O.kind ∧ O.kind ≤ 23) : fieldsB m F n O = (allOk m F n O && cutOk O && (decide (O.kind ≠ 22) || resB m F O)) := by
  obtain ⟨kd, a, b, c, d, e, f, k, args, next, els, pl⟩ := O
  dsimp only at h
  rcases kinds23 h with rfl | rfl | rfl | rfl | rfl | rfl | rfl | rfl | rfl | rfl | rfl | rfl | rfl | rfl | rfl | rfl | rfl | rfl | rfl | rfl | rfl | rfl | rfl
  all_goals
    apply Bool.eq_iff_iff.2
    simp [fieldsB, hiM, hiL, knJ, kB, allOk, fokAt, shT, shL, fok, bnd, fl, rg, cutOk, List.range, List.range.loop]
    try omega

end Go.Proofs.YtgohnlcgidmlfaaDoor
