/- Places and names: they make no difference to code's being right, nor to its text (plain). -/
import Derived.Test.YtklbbphbnipegaaDoorMer
set_option linter.unusedVariables false
set_option linter.unusedSimpArgs false
namespace Go.Proofs.YtklbbphbnipegaaDoor
open Go.RowKit

/-- an operation at another place; a function, code of other names and places -/
def reO (pl : Int) (O : Opx) : Opx := { O with pl := pl }
def reF (nm : List UInt8) (pl : Int) (f : Fn) : Fn := { f with name := nm, code := f.code.map (reO pl) }
def reM (nm : List UInt8) (pl : Int) (m : Mo) : Mo := { m with funcs := m.funcs.map (reF nm pl), locks := m.locks.map fun _ => nm }
section
variable {nm : List UInt8} {pl : Int}
theorem sumC_re : ∀ fs : List Fn, sumC (fs.map (reF nm pl)) = sumC fs
  | [] => rfl
  | f :: fs => by rw [List.map_cons, sumC, sumC, sumC_re fs]; simp [reF]
theorem fnB_re (f : Fn) : fnB (reF nm pl f) = fnB f := by unfold fnB; simp [reF]
theorem all_re {α : Type} {f : α → α} {p q : α → Bool} : ∀ {xs : List α}, (∀ x ∈ xs, p (f x) = q x) → (xs.map f).all p = xs.all q
  | [], _ => rfl
  | x :: xs, h => by rw [List.map_cons, List.all_cons, List.all_cons, h x (by simp), all_re fun y hy => h y (by simp [hy])]
theorem partsM_re (m : Mo) : partsM (reM nm pl m) = partsM m := by
  have h : (reM nm pl m).locks.length = m.locks.length := by simp [reM]
  unfold partsM
  rw [h]
  rfl
theorem stB_re (m : Mo) (x : Int) : stB (reM nm pl m) x = stB m x := by
  unfold stB
  simp only [reM, List.length_map, List.getElem?_map, Option.map_map]
  rfl
theorem funcsM_re (m : Mo) : funcsM (reM nm pl m) = funcsM m := by
  unfold funcsM
  have h1 : (reM nm pl m).funcs.length = m.funcs.length := by simp [reM]
  have h2 : (reM nm pl m).funcs.all fnB = m.funcs.all fnB := all_re fun f _ => fnB_re f
  have h3 : (reM nm pl m).threads.all (stB (reM nm pl m)) = m.threads.all (stB m) := by
    show m.threads.all (stB (reM nm pl m)) = _
    congr 1
    funext x
    exact stB_re m x
  have h4 : sumC (reM nm pl m).funcs = sumC m.funcs := sumC_re _
  rw [h1, h2, h3, h4]
  rfl
theorem calledB_re (m : Mo) (x : Int) : calledB (reM nm pl m) x = (calledB m x).map (reF nm pl) := by
  unfold calledB
  simp only [reM, List.length_map, List.getElem?_map]
  try (split <;> rfl)
theorem opB_re (m : Mo) (F : Fn) (n : Int) (O : Opx) : opB (reM nm pl m) (reF nm pl F) n (reO pl O) = opB m F n O := by
  have h1 : fieldsB (reM nm pl m) (reF nm pl F) n (reO pl O) = fieldsB m F n O := by
    unfold fieldsB resB
    rw [calledB_re, Option.map_map]
    have h2 : hiM (reM nm pl m) (reF nm pl F) n O.kind = hiM m F n O.kind := by unfold hiM; simp [reM, reF]
    simp only [reO] at *
    rw [h2]
    simp only [reM, reF, List.length_map]
    rfl
  have h2 : argsB (reM nm pl m) (reF nm pl F) (reO pl O) = argsB m F O := by
    unfold argsB countB
    rw [calledB_re, Option.map_map]
    rfl
  have h3 : waysB (reF nm pl F) (reO pl O) = waysB F O := by
    have h : (reF nm pl F).code.length = F.code.length := by simp [reF]
    unfold waysB
    rw [h]
    rfl
  unfold opB
  rw [h1, h2, h3]
theorem rightM_re (m : Mo) : rightM (reM nm pl m) = rightM m := by
  unfold rightM
  rw [partsM_re, funcsM_re]
  congr 1
  unfold opsM
  exact all_re fun f _ => all_re fun O _ => opB_re m f _ O
theorem opT_re (k : Nat) (O : Opx) : opT k (reO pl O) = opT k O := rfl
theorem opsU_re (xs : List Opx) (n : Nat) : opsU (xs.map (reO pl)) n = opsU xs n := by
  unfold opsU
  simp only [List.getElem?_map, Option.map_map]
  rfl
theorem fnT_re (i : Nat) (f : Fn) : fnT i (reF nm pl f) = fnT i f := by
  unfold fnT
  show _ ++ opsU (f.code.map (reO pl)) (f.code.map (reO pl)).length = _
  rw [opsU_re, List.length_map]
  rfl
theorem showU_re (m : Mo) (n : Nat) : showU (reM nm pl m) n = showU m n := by
  unfold showU
  simp only [reM, List.getElem?_map, Option.map_map]
  congr 1
  funext i
  cases m.funcs[i]? with
  | none => rfl
  | some f => exact fnT_re i f
theorem showR_re (m : Mo) : showR (reM nm pl m) = showR m := by
  unfold showR
  rw [rightM_re, showU_re]
  simp [reM]
end

end Go.Proofs.YtklbbphbnipegaaDoor
