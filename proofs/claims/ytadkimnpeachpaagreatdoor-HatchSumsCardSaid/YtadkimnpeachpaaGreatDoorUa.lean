/- Trees of expressions, plain, and in memory. -/
import Derived.Test.YtadkimnpeachpaaGreatDoorRe
import Derived.Test.YtadkimnpeachpaaGreatDoorDn
set_option linter.unusedVariables false
namespace Go.Proofs.YtadkimnpeachpaaGreatDoor
open Go.RowKit

inductive Ex where
  | mk (kind pl num : Int) (name : List UInt8) (args : List Ex)
def Ex.kind : Ex → Int | .mk k _ _ _ _ => k
def Ex.pl : Ex → Int | .mk _ p _ _ _ => p
def Ex.num : Ex → Int | .mk _ _ n _ _ => n
def Ex.name : Ex → List UInt8 | .mk _ _ _ s _ => s
def Ex.args : Ex → List Ex | .mk _ _ _ _ a => a
theorem Ex.eta (e : Ex) : Ex.mk e.kind e.pl e.num e.name e.args = e := by cases e; rfl

/-- the five cells of an expression whose arguments are the slice v -/
def exCells (e : Ex) (v : Value) : List Value := [.int .i64 e.kind, .int .i64 e.pl, .int .i64 e.num, .string (strOf e.name), v]
/-- the expressions es lie at the slice v, in blocks of S; no name is longer than 2^47 -/
inductive IsExs (w : World) (S : Nat → Prop) : List Ex → Value → Prop
  | mk (es : List Ex) (A : Option Addr) (c : Nat) (f : Nat → Value) (hc : es.length ≤ c) (hM : c ≤ 9223372036854775807)
    (hA : ∀ (k : Nat) (hk : k < es.length), ∃ b off, A = some ⟨b, off, none⟩ ∧ S b ∧ es[k].name.length ≤ 140737488355328 ∧
      w.cell? ⟨b, off + k * 5, none⟩ = some (.int .i64 es[k].kind) ∧ w.cell? ⟨b, off + k * 5 + 1, none⟩ = some (.int .i64 es[k].pl) ∧ w.cell? ⟨b, off + k * 5 + 2, none⟩ = some (.int .i64 es[k].num) ∧
      w.cell? ⟨b, off + k * 5 + 3, none⟩ = some (.string (strOf es[k].name)) ∧ w.cell? ⟨b, off + k * 5 + 4, none⟩ = some (f k))
    (hr : ∀ (k : Nat) (hk : k < es.length), IsExs w S es[k].args (f k)) : IsExs w S es (.slice A es.length c)
theorem IsExs.keep {w w' : World} {S S' : Nat → Prop} {es : List Ex} {v : Value} (h : IsExs w S es v) (hw : ∀ b, S b → w'.heap[b]? = w.heap[b]?) (hS : ∀ b, S b → S' b) : IsExs w' S' es v := by
  induction h with
  | mk es A c f hc hM hA hr ih =>
    refine .mk es A c f hc hM (fun k hk => ?_) (fun k hk => ih k hk)
    obtain ⟨b, off, h1, h2, h3, h4, h5, h6, h7, h8⟩ := hA k hk
    have hcell : ∀ i, w'.cell? ⟨b, i, none⟩ = w.cell? ⟨b, i, none⟩ := fun i => World.cell?_of_block (hw b h2)
    exact ⟨b, off, h1, hS b h2, h3, by rw [hcell]; exact h4, by rw [hcell]; exact h5, by rw [hcell]; exact h6, by rw [hcell]; exact h7, by rw [hcell]; exact h8⟩
theorem IsExs.bel {w w' : World} {B : Nat} {es : List Ex} {v : Value} (h : IsExs w (· < B) es v) (hb : Below B w w') : IsExs w' (· < B) es v :=
  h.keep (fun b hlt => hb.block b hlt) (fun _ h => h)

mutual
/-- what an expression weighs -/
def weigh : Ex → Int → Int → Int
  | .mk _ _ _ name args, most, deep => if deep = 0 ∧ 0 < args.length then most + 1 else weighs args (1 + (name.length : Int)) most deep
def weighs : List Ex → Int → Int → Int → Int
  | [], n, _, _ => n
  | e :: es, n, most, deep => if n ≤ most then weighs es (n + weigh e (most - n) (deep - 1)) most deep else n
end
theorem weighs_stop (es : List Ex) (n most deep : Int) (h : ¬ n ≤ most) : weighs es n most deep = n := by
  cases es with
  | nil => rw [weighs]
  | cons e es => rw [weighs, if_neg h]

end Go.Proofs.YtadkimnpeachpaaGreatDoor
