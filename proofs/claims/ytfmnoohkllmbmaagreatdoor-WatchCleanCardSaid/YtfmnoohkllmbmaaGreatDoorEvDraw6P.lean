/- The evaluator: EvDraw6P. -/
import Derived.Test.YtfmnoohkllmbmaaGreatDoorEvPairP
set_option linter.unusedVariables false
set_option linter.unusedSimpArgs false
namespace Go.Proofs.YtfmnoohkllmbmaaGreatDoor
namespace Ev
open Go.RowKit

/-- how many of the first n have not come up yet -/
def cnt (listed : Array Bool) : Nat → Nat
  | 0 => 0
  | n + 1 => cnt listed n + (if listed.getD n false then 0 else 1)

theorem cnt_set_ge {listed : Array Bool} {i : Nat} : ∀ n, n ≤ i → cnt (listed.setIfInBounds i true) n = cnt listed n
  | 0, _ => rfl
  | n + 1, h => by
    simp only [cnt]
    rw [cnt_set_ge n (by omega), getD_set_ne false (by omega)]

theorem cnt_set {listed : Array Bool} {i : Nat} (hi : i < listed.size) (hu : ¬ Ls listed i) : ∀ n, i < n → cnt (listed.setIfInBounds i true) n + 1 = cnt listed n
  | 0, h => by omega
  | n + 1, h => by
    simp only [cnt]
    by_cases e : n = i
    · subst e
      rw [cnt_set_ge n (Nat.le_refl _)]
      unfold Ls at hu
      have h1 : (listed.setIfInBounds n true).getD n false = true := by simp [hi]
      rw [h1, if_pos rfl, if_neg hu]
    · rw [getD_set_ne false (Ne.symm e)]
      have := cnt_set hi hu n (by omega)
      omega

theorem cnt_zero {listed : Array Bool} : ∀ n, cnt listed n = 0 → ∀ i, i < n → Ls listed i
  | 0, _, i, h => by omega
  | n + 1, hc, i, h => by
    simp only [cnt] at hc
    by_cases e : i = n
    · subst e
      unfold Ls
      cases hh : listed.getD i false with
      | true => rfl
      | false => rw [hh] at hc; simp at hc
    · exact cnt_zero n (by omega) i (by omega)

section
variable {P : Program} {E : Env} (HE : EnvOk P E) (HF : FnsOk P E) {w0 : World} {B : Nat} {ops : Array Oper} {bef : List Nat} (F : SF E ops bef) {c : Cx} {st : St} {a0 : Act}

theorem AI.perm {es es' : List Nat} {V : Nat → AV} {TM : Nat → T AV} {ID : Nat → Nat} {cx : Cx} {C : Dr} {listed : Array Bool} {a : Act} {w : World} (A : AI E w0 B ops bef c st a0 es V TM ID cx C listed a w) (h : ∀ x, x ∈ es → x ∈ es') :
    AI E w0 B ops bef c st a0 es' V TM ID cx C listed a w := { A with effAll := fun i o h1 h2 => (A.effAll i o h1 h2).imp id (h i) }

theorem HR.congr {c : Cx} {B : Nat} {h h' : T ABk} {w : World} (H : HR c B h w) (he : ∀ i, h'.get i = h.get i) : HR c B h' w :=
  ⟨fun i x b hi => H.bk i x b (by rw [← he i]; exact hi), fun i j x y b hi hj => H.inj i j x y b (by rw [← he i]; exact hi) (by rw [← he j]; exact hj)⟩

theorem Step.congr {st1 st2 : St} {cx : Cx} {a : Act} {w : World} (h : Step E w0 B c st cx st1 a w) (ht : ∀ t, st2.tm.get t = st1.tm.get t) (hh : ∀ i, st2.heap.get i = st1.heap.get i) (hn : st2.next = st1.next) (hnt : st2.nt = st1.nt)
    (hd : st2.defers = st1.defers) : Step E w0 B c st cx st2 a w :=
  ⟨h.ext, ⟨⟨h.rel.mem.below, h.rel.mem.size, h.rel.mem.heap.congr hh, by rw [hn]; exact h.rel.mem.fresh, fun i x hi => by rw [hn]; exact h.rel.mem.top i x (by rw [← hh i]; exact hi)⟩,
    ⟨by rw [hnt]; exact h.rel.tm.size, fun t x hx => h.rel.tm.at_ t x (by rw [← ht t]; exact hx)⟩, by rw [hd]; exact h.rel.defers, h.rel.gl⟩, by rw [hn]; exact h.next, fun i h1 h2 => by rw [hh i]; exact h.still i h1 h2⟩

include F in
theorem all_listed {listed : Array Bool} (hr : Region.ready .any ops listed = []) (hs : listed.size = ops.size) : ∀ n i, i < n → i < ops.size → Ls listed i
  | 0, i, h, _ => by omega
  | n + 1, i, h, hi => by
    cases hh : listed.getD i false with
    | true => exact hh
    | false =>
      have ho : ops[i]? = some ops[i] := Array.getElem?_eq_getElem hi
      obtain ⟨b, hb, g1, g2⟩ := F.sets i _ ho
      have : i ∈ Region.ready .any ops listed := by
        refine mem_ready.2 ⟨?_, _, ho, fun e he hb' => ?_⟩
        · have hlt : i < listed.size := by omega
          simp only [Array.getD_eq_getD_getElem?, Array.getElem?_eq_getElem hlt, Option.getD_some] at hh ⊢
          exact hh
        · have hlt := g2 e (by simpa using he) hb'
          exact all_listed hr hs n e.on (by omega) (by omega)
      rw [hr] at this
      cases this

end
end Ev
end Go.Proofs.YtfmnoohkllmbmaaGreatDoor
