/- The evaluator: EvFill. -/
import Derived.Test.YtfmnoohkllmbmaaGreatDoorEvTy
import Derived.Great.BuildSlice
set_option linter.unusedVariables false
set_option linter.unusedSimpArgs false
namespace Go.Proofs.YtfmnoohkllmbmaaGreatDoor
namespace Ev
open Go.RowKit

/-- the parts of a literal -/
inductive PL (c : Cx) : List (Nat × AV) → List (Nat × Value) → Prop
  | nil : PL c [] []
  | cons {i : Nat} {a : AV} {v : Value} {ps : List (Nat × AV)} {qs : List (Nat × Value)} (h : VR c a v) (hl : PL c ps qs) : PL c ((i, a) :: ps) ((i, v) :: qs)

def fillG (pl : Nat → Option (Nat × Nat)) : List AV → List (Nat × AV) → Option (List AV)
  | cs, [] => some cs
  | cs, (i, v) :: ps => match pl i with
    | none => none
    | some x => match fillAt cs x.1 x.2 v with
      | some cs' => fillG pl cs' ps
      | none => none

def plS (E : Env) (fs : List (Nat × Nat × Bool)) (i : Nat) : Option (Nat × Nat) :=
  match nth fs i with
  | none => none
  | some (u, o, _) => match E.ty.get u with
    | none => none
    | some ui => some (o, ui.size)

theorem fillS_eq (E : Env) (fs : List (Nat × Nat × Bool)) : ∀ (ps : List (Nat × AV)) (cs : List AV), fillS E fs cs ps = fillG (plS E fs) cs ps
  | [], cs => rfl
  | (i, v) :: ps, cs => by
    simp only [fillS, fillG, plS]
    cases h : nth fs i with
    | none => simp
    | some x =>
      obtain ⟨u, o, b⟩ := x
      simp only []
      cases hu : E.ty.get u with
      | none => simp
      | some ui =>
        simp only []
        cases hf : fillAt cs o ui.size v with
        | none => simp
        | some cs' => simp only [fillS_eq E fs ps cs']

theorem fillR_eq (size : Nat) : ∀ (ps : List (Nat × AV)) (cs : List AV), fillR size cs ps = fillG (fun i => some (i * size, size)) cs ps
  | [], cs => rfl
  | (i, v) :: ps, cs => by
    simp only [fillR, fillG]
    cases hf : fillAt cs (i * size) size v with
    | none => simp
    | some cs' => simp only [fillR_eq size ps cs']

theorem fold_set (off : Nat) : ∀ (vs : List Value) (k : Nat) (cells : Array Value), off + k + vs.length ≤ cells.size →
    ((vs.zipIdx k).foldl (fun cs p => cs.setIfInBounds (off + p.2) p.1) cells).size = cells.size ∧
    ∀ j, ((vs.zipIdx k).foldl (fun cs p => cs.setIfInBounds (off + p.2) p.1) cells)[j]? = if off + k ≤ j ∧ j < off + k + vs.length then vs[j - (off + k)]? else cells[j]?
  | [], k, cells, h => by
    refine ⟨rfl, fun j => ?_⟩
    rw [if_neg (by simp)]
    rfl
  | v :: vs, k, cells, h => by
    simp only [List.length_cons] at h
    obtain ⟨h1, h2⟩ := fold_set off vs (k + 1) (cells.setIfInBounds (off + k) v) (by simp; omega)
    simp only [List.zipIdx_cons, List.foldl_cons]
    refine ⟨by rw [h1]; simp, fun j => ?_⟩
    rw [h2 j]
    by_cases hj : off + (k + 1) ≤ j ∧ j < off + (k + 1) + vs.length
    · rw [if_pos hj, if_pos (by simp; omega)]
      rw [show j - (off + k) = (j - (off + (k + 1))) + 1 by omega]
      simp
    · rw [if_neg hj]
      by_cases he : j = off + k
      · subst he
        rw [if_pos (by simp), Array.getElem?_setIfInBounds_self_of_lt (by omega)]
        simp
      · rw [if_neg (by simp; omega)]
        rw [Array.getElem?_setIfInBounds_ne (by omega)]

theorem fillAt_ok {c : Cx} {cs r : List AV} {off size : Nat} {a : AV} {arr : Array Value} {v : Value} (h : fillAt cs off size a = some r) (hl : LR c cs arr.toList) (hv : VR c a v) :
    ¬ (v.cells.size ≠ size ∨ off + v.cells.size > arr.size) ∧
    LR c r (v.cells.zipIdx.foldl (fun cs (x, j) => cs.setIfInBounds (off + j) x) arr).toList := by
  unfold fillAt at h
  split at h
  · rename_i hb
    have hb := Nat.eq_of_beq_eq_true hb
    obtain ⟨h1, h2, h3⟩ := over_some _ _ _ _ h
    have hc := hv.cells
    have hcl := hc.len
    have hal := hl.len
    simp only [Array.length_toList] at hcl hal
    refine ⟨by omega, ?_⟩
    obtain ⟨f1, f2⟩ := fold_set off v.cells.toList 0 arr (by simp; omega)
    have e : (v.cells.zipIdx.foldl (fun cs (x, j) => cs.setIfInBounds (off + j) x) arr) = ((v.cells.toList.zipIdx 0).foldl (fun cs p => cs.setIfInBounds (off + p.2) p.1) arr) := by
      rw [← Array.foldl_toList, Array.toList_zipIdx]
    rw [e]
    refine ⟨by rw [h1]; simp [f1, hal], fun k x y hx hy => ?_⟩
    rw [Array.getElem?_toList, f2 k] at hy
    rw [h3 k] at hx
    by_cases hk : off ≤ k ∧ k < off + a.cells.length
    · rw [if_pos hk] at hx
      rw [if_pos (by simp; omega)] at hy
      exact hc.at_ _ x y hx (by simpa using hy)
    · rw [if_neg hk] at hx
      rw [if_neg (by simp; omega)] at hy
      exact hl.at_ k x y hx (by simpa using hy)
  · cases h

theorem fillG_ok {c : Cx} {pl place : Nat → Option (Nat × Nat)} (hp : ∀ i x, pl i = some x → place i = some x) : ∀ (ps : List (Nat × AV)) (qs : List (Nat × Value)) (cs r : List AV) (arr : Array Value),
    PL c ps qs → LR c cs arr.toList → fillG pl cs ps = some r → ∃ rarr, Instr.fill place arr qs = some rarr ∧ LR c r rarr.toList
  | [], _, cs, r, arr, .nil, hl, h => by
    simp only [fillG, Option.some.injEq] at h
    subst h
    exact ⟨arr, rfl, hl⟩
  | (i, a) :: ps, _, cs, r, arr, .cons (v := v) (qs := qs) hv hps, hl, h => by
    simp only [fillG] at h
    split at h
    · cases h
    · rename_i x hx
      split at h
      · rename_i cs' hf
        obtain ⟨hne, hl'⟩ := fillAt_ok hf hl hv
        obtain ⟨rarr, hr, hlr⟩ := fillG_ok hp ps qs cs' r _ hps hl' h
        refine ⟨rarr, ?_, hlr⟩
        obtain ⟨o, s⟩ := x
        simp only [Instr.fill, hp i _ hx]
        rw [if_neg (by simpa using hne)]
        exact hr
      · cases h

theorem evParts_ok {c : Cx} {r : Operand → Option AV} {ρ : Operand → Value} : ∀ (l : List (Nat × Operand)) (ps : List (Nat × AV)), (∀ x ∈ l.map (·.2), ∀ a, r x = some a → VR c a (ρ x)) → evParts r l = some ps →
    PL c ps (l.map fun (i, x) => (i, ρ x))
  | [], ps, hr, h => by simp only [evParts, Option.some.injEq] at h; subst h; exact .nil
  | (i, x) :: l, ps, hr, h => by
    simp only [evParts] at h
    split at h
    · rename_i a ha
      split at h
      · rename_i ps' hps
        cases h
        exact .cons (hr x (by simp) a ha) (evParts_ok l ps' (fun y hy => hr y (by simp at hy ⊢; exact .inr hy)) hps)
      · cases h
    · cases h

theorem evOperands_ok {c : Cx} {r : Operand → Option AV} {ρ : Operand → Value} : ∀ (l : List Operand) (as : List AV), (∀ x ∈ l, ∀ a, r x = some a → VR c a (ρ x)) → evOperands r l = some as →
    LR c as (l.map ρ)
  | [], ps, hr, h => by simp only [evOperands, Option.some.injEq] at h; subst h; exact LR.nil c
  | x :: l, ps, hr, h => by
    simp only [evOperands] at h
    split at h
    · rename_i a ha
      split at h
      · rename_i ps' hps
        cases h
        exact LR.cons (hr x (by simp) a ha) (evOperands_ok l ps' (fun y hy => hr y (by simp [hy])) hps)
      · cases h
    · cases h

/-- a part of a struct or an array -/
theorem partE_ok {c : Cx} {P : Program} {u o : Nat} {ui : TI} (hu : TIok P u ui) {cs : List AV} {arr : Array Value} (hl : LR c cs arr.toList) {a : AV} (h : partE cs o ui = some a) (w : World) :
    ∃ v, (part u arr o).run P w = .ok v w ∧ VR c a v := by
  have hag := hu.isAgg w
  unfold partE at h
  split at h
  · rename_i hagg
    rw [hagg] at hag
    cases hs : sub cs o ui.size with
    | none => rw [hs] at h; cases h
    | some xs =>
      rw [hs] at h
      cases h
      obtain ⟨rfl, hlen⟩ := sub_some hs
      refine ⟨.agg (arr.extract o (o + ui.size)), by simp [part, hag, hu.size w], LR.agg ?_⟩
      have := hl.sub o ui.size
      simpa [List.extract_eq_take_drop] using this
  · rename_i hagg
    rw [hagg] at hag
    rw [nth_eq] at h
    obtain ⟨v, hv, hr⟩ := hl.get h
    refine ⟨v, ?_, hr⟩
    rw [Array.getElem?_toList] at hv
    simp [part, hag, hv]

end Ev
end Go.Proofs.YtfmnoohkllmbmaaGreatDoor
