/- The evaluator: EvTy. -/
import Derived.Test.YtfmnoohkllmbmaaGreatDoorEvVal
set_option linter.unusedVariables false
set_option linter.unusedSimpArgs false
namespace Go.Proofs.YtfmnoohkllmbmaaGreatDoor
namespace Ev
open Go.RowKit

/-- what is known of a type, and the program's type -/
def TDok : TD → TypeDesc → Prop
  | .int k, .int k' => k' = k
  | .bool, .bool => True
  | .str, .string => True
  | .ptr e, .pointer e' => e' = e
  | .slice e, .slice e' => e' = e
  | .array n e, .array n' e' => n' = n ∧ e' = e
  | .map k e, .map k' e' => k' = k ∧ e' = e
  | .chan e, .chan _ e' => e' = e
  | .struct fs, .struct fs' => fs = fs'.toList.map fun f => (f.type, f.offset, f.name == "_")
  | .iface b, .interface ms => b = ms.isEmpty
  | .func, .func _ _ _ => True
  | .tuple, .tuple _ => True
  | .other, .float _ => True
  | _, _ => False

/-- the zero value -/
def TI.zeroV (ti : TI) : Option AV := match ti.agg with | true => some (.agg ti.zero) | false => nth ti.zero 0

structure TIok (P : Program) (t : Nat) (ti : TI) : Prop where
  info : ∃ i z a, P.info? t = some i ∧ i.size = ti.size ∧ i.bytes = ti.bytes ∧ i.zero = some z ∧ cvt z = some a ∧ a.cells = ti.zero ∧ ti.zeroV = some a
  desc : ∃ d, P.underlying t = some d ∧ TDok ti.d d
  agg : ti.agg = match ti.d with | .struct _ | .array _ _ => true | _ => false
  cmp : ti.cmp = true → P.eqGuardType P.depth t = false ∧ ((match ti.d with | .struct _ => true | _ => false) = true → P.stoodInHeld t = false)
  zlen : ti.zero.length = ti.size
  fields : ∀ fs, P.underlying t = some (.struct fs) → ∀ f ∈ fs.toList, (P.info? f.type).isSome = true

section
variable {P : Program} {t : Nat} {ti : TI} (h : TIok P t ti) (w : World)
include h

theorem TIok.size : (sizeOf t).run P w = .ok ti.size w := by
  obtain ⟨i, z, a, h1, h2, h3, h4, h5⟩ := h.info
  simp [sizeOf, typeInfo, h1, h2]
theorem TIok.typeInfo : ∃ i, (typeInfo t).run P w = .ok i w ∧ i.size = ti.size ∧ i.bytes = ti.bytes := by
  obtain ⟨i, z, a, h1, h2, h3, h4, h5⟩ := h.info
  exact ⟨i, by simp [Go.typeInfo, h1], h2, h3⟩
theorem TIok.zeroValue (c : Cx) : ∃ z a, (zeroValue t).run P w = .ok z w ∧ VR c a z ∧ a.cells = ti.zero ∧ ti.zeroV = some a := by
  obtain ⟨i, z, a, h1, h2, h3, h4, h5, h6⟩ := h.info
  exact ⟨z, a, by simp [Go.zeroValue, Go.typeInfo, h1, h4], cvt_ok c z a h5, h6⟩
theorem TIok.isAgg : (isAgg t).run P w = .ok ti.agg w := by
  obtain ⟨d, hd, hk⟩ := h.desc
  rw [h.agg]
  cases hti : ti.d <;> cases d <;> rw [hti] at hk <;> simp only [TDok] at hk <;> simp [Go.isAgg, Go.underlying, hd]
end

structure EnvOk (P : Program) (E : Env) : Prop where
  ty : ∀ t ti, E.ty.get t = some ti → TIok P t ti

theorem TDok.und {P : Program} {t : Nat} {d : TypeDesc} (h : P.underlying t = some d) (w : World) : (underlying t).run P w = .ok d w := by simp [Go.underlying, h]

section
variable {c : Cx} {B : Nat} {h : T ABk} {w : World} (H : HR c B h w)
include H

theorem HR.cells {i b e sz : Nat} {g ro : Bool} {cs : List AV} (hi : h.get i = some (.cells e sz g ro cs)) (hb : c.ρ i = some b) :
    ∃ arr fz, w.heap[b]? = some (.cells arr e fz) ∧ cs.length ≤ arr.size ∧ (∀ (k : Nat) (a : AV), cs[k]? = some a → ∃ v, arr[k]? = some v ∧ VR c a v) ∧
      (ro = false → fz = (0, 0) ∧ B ≤ b) ∧ (g = false → arr.size = cs.length) ∧ (g = true → arr.size = c.κ i * sz) := by
  obtain ⟨o, ho, hr⟩ := H.bk i _ b hi hb
  cases o <;> simp only [BR] at hr
  obtain ⟨rfl, h1, h2, h3, h4, h5⟩ := hr
  exact ⟨_, _, ho, h1, h2, h3, h4, h5⟩

theorem HR.rd {b o n b' : Nat} {xs : List AV} (hb : c.ρ b = some b') (he : Ev.rd h b o n = some xs) :
    ∃ ys : List Value, ys.length = n ∧ LR c xs ys ∧ ∀ (j : Nat) (v : Value), ys[j]? = some v → w.cell? ((⟨b', o, none⟩ : Addr).add j) = some v := by
  unfold Ev.rd at he
  split at he
  · rename_i e sz g ro cs hg
    obtain ⟨rfl, hl⟩ := sub_some he
    obtain ⟨arr, fz, hw, hle, hp, _⟩ := H.cells hg hb
    have hlen : o + n ≤ cs.length ∨ n = 0 := by simp at hl; omega
    have hlen' : ((arr.toList.drop o).take n).length = n := by simp; omega
    refine ⟨(arr.toList.drop o).take n, hlen', ⟨hl.trans hlen'.symm, fun k a v ha hv => ?_⟩, fun j v hv => ?_⟩
    · rw [List.getElem?_take] at ha hv
      split at ha
      · rename_i hk
        rw [if_pos hk, List.getElem?_drop] at hv
        rw [List.getElem?_drop] at ha
        obtain ⟨v', hv', hr⟩ := hp _ a ha
        rw [← Array.getElem?_toList] at hv'
        rw [hv'] at hv
        cases hv
        exact hr
      · cases ha
    · rw [List.getElem?_take] at hv
      split at hv
      · rw [List.getElem?_drop, Array.getElem?_toList] at hv
        rw [Addr.add_mid, cell_of_row w b' (o + j) arr e fz hw]
        exact hv
      · cases hv
  · cases he

theorem HR.cell {b o b' : Nat} {a : AV} (hb : c.ρ b = some b') (he : (match h.get b with | some (.cells _ _ _ _ cs) => nth cs o | _ => none) = some a) :
    ∃ v, w.cell? ⟨b', o, none⟩ = some v ∧ VR c a v := by
  split at he
  · rename_i e sz g ro cs hg
    obtain ⟨arr, fz, hw, hle, hp, _⟩ := H.cells hg hb
    rw [nth_eq] at he
    obtain ⟨v, hv, hr⟩ := hp o a he
    exact ⟨v, by rw [cell_of_row w b' o arr e fz hw]; exact hv, hr⟩
  · cases he

/-- a variable is read -/
theorem HR.loadVar {P : Program} {t : Nat} {ti : TI} (ht : TIok P t ti) {b o b' : Nat} {a : AV} (hb : c.ρ b = some b')
    (he : (match ti.agg with
      | true => (Ev.rd h b o ti.size).map .agg
      | false => match h.get b with
        | some (.cells _ _ _ _ cs) => nth cs o
        | _ => none) = some a) : ∃ v, (loadVar t ⟨b', o, none⟩).run P w = .ok v w ∧ VR c a v := by
  have hag := ht.isAgg w
  split at he
  · rename_i hagg
    rw [hagg] at hag
    cases hrd : Ev.rd h b o ti.size with
    | none => rw [hrd] at he; cases he
    | some xs =>
      rw [hrd] at he
      cases he
      obtain ⟨ys, hl, hr, hc⟩ := H.rd hb hrd
      refine ⟨.agg ys.toArray, ?_, LR.agg (by simpa using hr)⟩
      have := run_loadCells_list (P := P) (w := w) ⟨b', o, none⟩ ys hc
      rw [hl] at this
      simp [Go.loadVar, hag, ht.size w, this]
  · rename_i hagg
    rw [hagg] at hag
    obtain ⟨v, hv, hr⟩ := H.cell hb he
    exact ⟨v, by simp [Go.loadVar, hag, hv], hr⟩
end

end Ev
end Go.Proofs.YtfmnoohkllmbmaaGreatDoor
