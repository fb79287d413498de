/- A great array literal in a variable of its own, in three steps that do not open it. -/
import Derived.Test.YtnplekfpncjnpaaRows
import Derived.WalkKit
import Derived.Deep.WholeRow
set_option linter.unusedVariables false
namespace Go.Proofs.Ytnplekfpncjnpaa
open Go.RowKit

theorem wpList_build_lit {P : Program} {ops : Array Oper} {rest : List Oper} {o : Oper} {a : Act} {w : World} {Q : Exit → Act → World → Prop} (hgd : o.guard = none) (T : TypeId) (parts : Array (Nat × Operand))
    (ho : o.op = .build T parts) (vs : Array (Nat × Value)) (hv : (parts.map fun (i, x) => (i, a.eval x)) = vs) (cells : Array Value) (hb : P.built T vs.toList = some cells)
    (h : wpList P ops Q rest (a.put o.dst (.agg cells)) w) : wpList P ops Q (o :: rest) a w := by
  refine wpList_plain hgd fun K hK => ?_
  unfold Oper.wp execOp
  rw [ho]
  simp only [Sem.run_bind, Sem.run_pure, hv, run_build w T vs cells hb, Result.andThen_ok]
  exact hK _ _ h
theorem wpList_alloc_lit {P : Program} {ops : Array Oper} {rest : List Oper} {o : Oper} {a : Act} {w : World} {Q : Exit → Act → World → Prop} (hgd : o.guard = none) (T : TypeId)
    (ho : o.op = .alloc T) (z : Value) (n : Nat) (hz : (P.info? T).map (fun i => (i.zero, i.size)) = some (some z, n)) (cells : Array Value) (hc : z.cells = cells)
    (h : wpList P ops Q rest (a.put o.dst (.pointer (some ⟨w.heap.size, 0, none⟩))) (w.alloc (.cells cells T))) : wpList P ops Q (o :: rest) a w := by
  refine wpList_plain hgd fun K hK => ?_
  unfold Oper.wp execOp
  rw [ho]
  simp only [Sem.run_bind, Sem.run_pure, Instr.alloc, (zero_of_info hz).1, Result.andThen_ok]
  subst hc
  exact hK _ _ h
theorem wpList_store_lit {P : Program} {ops : Array Oper} {rest : List Oper} {o : Oper} {a : Act} {w : World} {Q : Exit → Act → World → Prop} (hgd : o.guard = none) (T : TypeId) (p x : Operand)
    (ho : o.op = .store T p x) (hp : a.eval p = .pointer (some ⟨w.heap.size, 0, none⟩)) (c c' : Array Value) (hx : a.eval x = .agg c') (hi : (P.info? T).map (·.size) = some c'.size) (hs : c.size = c'.size) (h1 : c'.all (·.oneCell') = true)
    (h : wpList P ops Q rest (a.put o.dst undef) (w.alloc (.cells c' T))) : wpList P ops Q (o :: rest) a (w.alloc (.cells c T)) := by
  refine wpList_plain hgd fun K hK => ?_
  unfold Oper.wp execOp
  rw [ho]
  simp only [Sem.run_bind, Sem.run_pure, hp, hx, run_storeAt_new w T c c' hi hs h1, Result.andThen_ok]
  exact hK _ _ h

end Go.Proofs.Ytnplekfpncjnpaa
