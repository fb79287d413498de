/- Names and places, written one by one (plain). -/
import Derived.Test.YtklbbphbnipegaaDoorMff
set_option linter.unusedVariables false
set_option linter.unusedSimpArgs false
namespace Go.Proofs.YtklbbphbnipegaaDoor
open Go.RowKit

def reK (nm : List UInt8) (pl : Int) (k : Nat) (f : Fn) : Fn := { f with name := nm, code := (f.code.take k).map (reO pl) ++ f.code.drop k }
section
variable {nm : List UInt8} {pl : Int} {fs0 fs : List Fn} {i k : Nat} {f : Fn}
theorem reK_zero : reK nm pl 0 f = { f with name := nm } := by simp [reK]
theorem reK_all : reK nm pl f.code.length f = reF nm pl f := by simp [reK, reF]
theorem reK_len (h : k ≤ f.code.length) : (reK nm pl k f).code.length = f.code.length := by simp [reK]; omega
theorem reK_at (h : k < f.code.length) (h' : k < (reK nm pl k f).code.length) : (reK nm pl k f).code[k] = f.code[k] := by
  have hl : ((f.code.take k).map (reO pl)).length = k := by rw [List.length_map, List.length_take]; omega
  have h2 : (reK nm pl k f).code[k]? = f.code[k]? := by
    show ((f.code.take k).map (reO pl) ++ f.code.drop k)[k]? = _
    rw [List.getElem?_append_right (by omega), hl, Nat.sub_self, List.getElem?_drop, Nat.add_zero]
  rw [List.getElem?_eq_getElem h', List.getElem?_eq_getElem h] at h2
  exact Option.some.inj h2
theorem reK_next (h : k < f.code.length) : { reK nm pl k f with code := (reK nm pl k f).code.set k (reO pl f.code[k]) } = reK nm pl (k + 1) f := by
  unfold reK
  dsimp only
  have hl : ((f.code.take k).map (reO pl)).length = k := by rw [List.length_map, List.length_take]; omega
  congr 1
  rw [List.set_append_right _ _ (by omega), hl, Nat.sub_self, List.drop_eq_getElem_cons h, List.set_cons_zero, List.take_succ_eq_append_getElem h, List.map_append, List.append_assoc]
  rfl
def ReUp (nm : List UInt8) (pl : Int) (fs0 fs : List Fn) (i : Nat) : Prop := fs.length = fs0.length ∧ ∀ j, fs[j]? = if j < i then (fs0[j]?).map (reF nm pl) else fs0[j]?
def ReIn (nm : List UInt8) (pl : Int) (fs0 fs : List Fn) (i k : Nat) : Prop := fs.length = fs0.length ∧ ∀ j, fs[j]? = if j = i then (fs0[j]?).map (reK nm pl k) else if j < i then (fs0[j]?).map (reF nm pl) else fs0[j]?
theorem ReUp.zero : ReUp nm pl fs0 fs0 0 := ⟨rfl, fun j => by rw [if_neg (by omega)]⟩
theorem ReIn.at_ (h : ReIn nm pl fs0 fs i k) (hi : i < fs.length) (hi0 : i < fs0.length) : fs[i] = reK nm pl k fs0[i] := by
  have := h.2 i
  rw [if_pos rfl, List.getElem?_eq_getElem hi, List.getElem?_eq_getElem hi0] at this
  exact Option.some.inj this
theorem ReUp.at_ (h : ReUp nm pl fs0 fs i) (hi : i < fs.length) (hi0 : i < fs0.length) : fs[i] = fs0[i] := by
  have := h.2 i
  rw [if_neg (by omega), List.getElem?_eq_getElem hi, List.getElem?_eq_getElem hi0] at this
  exact Option.some.inj this
theorem ReUp.name (h : ReUp nm pl fs0 fs i) (hi : i < fs.length) : ReIn nm pl fs0 (fs.set i { fs[i] with name := nm }) i 0 := by
  have hi0 : i < fs0.length := by rw [← h.1]; exact hi
  refine ⟨by rw [List.length_set]; exact h.1, fun j => ?_⟩
  rw [List.getElem?_set]
  by_cases e : i = j
  · subst e
    rw [if_pos rfl, if_pos rfl, if_pos hi, h.at_ hi hi0, List.getElem?_eq_getElem hi0, Option.map_some, reK_zero]
  · rw [if_neg e, if_neg (fun e' => e e'.symm), h.2 j]
theorem ReIn.step (h : ReIn nm pl fs0 fs i k) (hi : i < fs.length) (hi0 : i < fs0.length) (hk0 : k < fs0[i].code.length) (hk : k < fs[i].code.length) :
    ReIn nm pl fs0 (fs.set i { fs[i] with code := fs[i].code.set k (reO pl fs[i].code[k]) }) i (k + 1) := by
  refine ⟨by rw [List.length_set]; exact h.1, fun j => ?_⟩
  rw [List.getElem?_set]
  by_cases e : i = j
  · subst e
    have he := h.at_ hi hi0
    have h2 : fs[i].code[k] = fs0[i].code[k] := by
      have h3 := reK_at (nm := nm) (pl := pl) hk0 (by rw [reK_len (by omega)]; exact hk0)
      rw [← h3]
      congr 1
      rw [he]
    rw [if_pos rfl, if_pos rfl, if_pos hi, List.getElem?_eq_getElem hi0, Option.map_some, h2, he, reK_next hk0]
  · rw [if_neg e, if_neg (fun e' => e e'.symm), h.2 j, if_neg (fun e' => e e'.symm)]
theorem ReIn.out (h : ReIn nm pl fs0 fs i k) (hi0 : i < fs0.length) (hk : k = fs0[i].code.length) : ReUp nm pl fs0 fs (i + 1) := by
  refine ⟨h.1, fun j => ?_⟩
  rw [h.2 j]
  by_cases e : j = i
  · subst e
    rw [if_pos rfl, if_pos (by omega), List.getElem?_eq_getElem hi0, Option.map_some, Option.map_some, hk, reK_all]
  · rw [if_neg e]
    by_cases e2 : j < i
    · rw [if_pos e2, if_pos (by omega)]
    · rw [if_neg e2, if_neg (by omega)]
theorem ReUp.done (h : ReUp nm pl fs0 fs i) (hi : i = fs0.length) : fs = fs0.map (reF nm pl) := by
  apply List.ext_getElem?
  intro j
  rw [h.2 j, List.getElem?_map]
  split
  · rfl
  · rw [List.getElem?_eq_none (by omega)]; rfl
def ReLk (nm : List UInt8) (ls0 ls : List (List UInt8)) (i : Nat) : Prop := ls.length = ls0.length ∧ ∀ j, ls[j]? = if j < i then (ls0[j]?).map (fun _ => nm) else ls0[j]?
theorem ReLk.zero {ls0 : List (List UInt8)} : ReLk nm ls0 ls0 0 := ⟨rfl, fun j => by rw [if_neg (by omega)]⟩
theorem ReLk.step {ls0 ls : List (List UInt8)} (h : ReLk nm ls0 ls i) (hi : i < ls.length) : ReLk nm ls0 (ls.set i nm) (i + 1) := by
  have hi0 : i < ls0.length := by rw [← h.1]; exact hi
  refine ⟨by rw [List.length_set]; exact h.1, fun j => ?_⟩
  rw [List.getElem?_set]
  by_cases e : i = j
  · subst e
    rw [if_pos rfl, if_pos hi, if_pos (by omega), List.getElem?_eq_getElem hi0, Option.map_some]
  · rw [if_neg e, h.2 j]
    by_cases e2 : j < i
    · rw [if_pos e2, if_pos (by omega)]
    · rw [if_neg e2, if_neg (by omega)]
theorem ReLk.done {ls0 ls : List (List UInt8)} (h : ReLk nm ls0 ls i) (hi : i = ls0.length) : ls = ls0.map fun _ => nm := by
  apply List.ext_getElem?
  intro j
  rw [h.2 j, List.getElem?_map]
  split
  · rfl
  · rw [List.getElem?_eq_none (by omega)]; rfl
end

end Go.Proofs.YtklbbphbnipegaaDoor
