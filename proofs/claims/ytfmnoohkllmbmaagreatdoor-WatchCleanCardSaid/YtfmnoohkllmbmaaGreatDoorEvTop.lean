/- The evaluator: EvTop. -/
import Derived.Test.YtfmnoohkllmbmaaGreatDoorEvDraw7P
set_option linter.unusedVariables false
namespace Go.Proofs.YtfmnoohkllmbmaaGreatDoor
namespace Ev
open Go.RowKit

/-- a call that the evaluator carries out and that has a body is entered -/
theorem evCall_enter {P : Program} {E : Env} (HF : FnsOk P E) {rec_ : Rec} {h : T ABk} {nx f : Nat} {args : List AV} {x : AV × T ABk × Nat} (he : evCall E rec_ h nx f args = some x) (hx : E.pure.get f = none) (vs : Array Value) (w : World) :
    (callFunc f vs).run P w = .ok (.enter f vs) w := by
  unfold evCall at he
  rw [hx] at he
  simp only at he
  split at he
  · cases he
  · rename_i fn hfn
    obtain ⟨hf1, hf2⟩ := HF.fn f fn hfn
    split at he
    · cases he
    · rename_i code hb
      have hbn : fn.body.isNone = false := by rw [hb]; rfl
      unfold callFunc
      simp only [Sem.run_bind, run_program, Result.andThen_ok, hf1]
      rw [if_neg (by simpa using hf2), if_neg (by simp [hbn])]
      rfl

/-- a closed call that the evaluator carries out, carried out by the machine -/
theorem closed_call {P : Program} {E : Env} (HE : EnvOk P E) (HF : FnsOk P E) (hgl : ∀ g b, E.gl.get g = some b → False) {n f nx : Nat} {v : AV} {h : T ABk} (he : evCall E (ev E n) .leaf 0 f [] = some (v, h, nx))
    (hx : E.pure.get f = none) (w : World) : Calls P f #[] w fun e w' => (∃ val c, e = .returned val ∧ VR c v val) ∧ Below w.heap.size w w' := by
  have S : SR w w.heap.size ⟨fun _ => none, fun _ => 0⟩ .leaf 0 w := ⟨Below.refl _ _, Nat.le_refl _, HR_leaf _ _ _, fun i b h => (by cases h), fun i x h => (by cases h)⟩
  have HR := ev_ok HE HF (draw_ok HE HF (w0 := w) (B := w.heap.size)) n
  have hc := evCall_ok HE HF HR S (fun g b h => (hgl g b h).elim) (vs := #[]) (LR.nil _) he
  rcases hc with ⟨val, w', h1, _⟩ | ⟨_, h2⟩
  · rw [evCall_enter HF he hx] at h1
    cases h1
  · exact h2.mono fun e w' ⟨val, he', c', _, hS, hval, _⟩ => ⟨⟨val, c', he', hval⟩, hS.below⟩

theorem closed_true {P : Program} {E : Env} (HE : EnvOk P E) (HF : FnsOk P E) (hgl : ∀ g b, E.gl.get g = some b → False) {n f nx : Nat} {h : T ABk} (he : evCall E (ev E n) .leaf 0 f [] = some (.bool true, h, nx))
    (hx : E.pure.get f = none) (w : World) : Calls P f #[] w fun e w' => e = .returned (.bool true) ∧ Below w.heap.size w w' :=
  (closed_call HE HF hgl he hx w).mono fun e w' ⟨⟨val, c, he', hv⟩, hb⟩ => ⟨by rw [he', hv.boolE], hb⟩

end Ev
end Go.Proofs.YtfmnoohkllmbmaaGreatDoor
