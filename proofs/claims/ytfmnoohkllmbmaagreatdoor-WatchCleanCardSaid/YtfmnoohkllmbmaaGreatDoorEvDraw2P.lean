/- The evaluator: EvDraw2P. -/
import Derived.Test.YtfmnoohkllmbmaaGreatDoorEvDrawP
set_option linter.unusedVariables false
set_option linter.unusedSimpArgs false
namespace Go.Proofs.YtfmnoohkllmbmaaGreatDoor
namespace Ev
open Go.RowKit

def Ls (listed : Array Bool) (i : Nat) : Prop := listed.getD i false = true

/-- what an operation without effects yields, whenever it comes up -/
def Fact (E : Env) (ops : Array Oper) (st : St) (cx : Cx) (C : Dr) (v : AV) (tm : T AV) (id : Nat) (i : Nat) (o : Oper) : Prop :=
  (wantedBy tm.get ops.toList o = some false ∧ v = .tup []) ∨
  (wantedBy tm.get ops.toList o = some true ∧
    ((kindOf E o = .pure ∧ evPure E (evOperand E tm) .leaf o = some v) ∨
     (kindOf E o = .read ∧ evPure E (evOperand E tm) C.h o = some v ∧ (i, o, tm, v) ∈ C.pend) ∨
     (kindOf E o = .new ∧ ∃ blk f, evNew E (evOperand E tm) o = some (blk, f) ∧ v = f id ∧ C.h.get id = some blk ∧ cx.ρ id = none ∧ id < C.nx ∧ st.next ≤ id)))

structure AI (E : Env) (w0 : World) (B : Nat) (ops : Array Oper) (bef : List Nat) (c : Cx) (st : St) (a0 : Act) (es : List Nat) (V : Nat → AV) (TM : Nat → T AV) (ID : Nat → Nat)
    (cx : Cx) (C : Dr) (listed : Array Bool) (a : Act) (w : World) : Prop where
  size : listed.size = ops.size
  sub : ∀ i, Ls listed i → C.done.testBit i = true
  down : ∀ (i : Nat) (o : Oper), Ls listed i → ops[i]? = some o → ∀ e ∈ o.after.toList, Region.binds .any e = true → Ls listed e.on
  doneLt : ∀ i, C.done.testBit i = true → i < ops.size
  doneDown : ∀ i j, C.done.testBit i = true → bb bef i j → C.done.testBit j = true
  effDone : ∀ (i : Nat) (o : Oper), C.done.testBit i = true → ops[i]? = some o → isEff E o = true → Ls listed i
  effAll : ∀ (i : Nat) (o : Oper), ops[i]? = some o → isEff E o = true → C.done.testBit i = true ∨ i ∈ es
  k1 : ∀ (i : Nat) (o : Oper) (d : Nat), C.done.testBit i = true → ops[i]? = some o → o.dst = some d → C.tm.get d = some (V i) ∧ d < st.nt
  k2 : ∀ t, (∀ (i : Nat) (o : Oper), C.done.testBit i = true → ops[i]? = some o → o.dst ≠ some t) → C.tm.get t = st.tm.get t
  k5 : ∀ (i : Nat) (o : Oper), C.done.testBit i = true → ¬ Ls listed i → ops[i]? = some o → ∀ t ∈ tmpsOf ops.toList o, ∀ x, (TM i).get t = some x →
    (∃ j oj, bb bef i j ∧ ops[j]? = some oj ∧ oj.dst = some t ∧ V j = x) ∨ ((∀ (j : Nat) (oj : Oper), ops[j]? = some oj → oj.dst = some t → j = i ∨ bb bef j i) ∧ st.tm.get t = some x)
  fact : ∀ (i : Nat) (o : Oper), C.done.testBit i = true → ¬ Ls listed i → ops[i]? = some o → Fact E ops st cx C (V i) (TM i) (ID i) i o
  ids : ∀ (i j : Nat) (oi oj : Oper), C.done.testBit i = true → C.done.testBit j = true → ¬ Ls listed i → ¬ Ls listed j → ops[i]? = some oi → ops[j]? = some oj → kindOf E oi = .new → kindOf E oj = .new →
    wantedBy (TM i).get ops.toList oi = some true → wantedBy (TM j).get ops.toList oj = some true → ID i = ID j → i = j
  t1 : ∀ (i : Nat) (o : Oper) (d : Nat), Ls listed i → ops[i]? = some o → o.dst = some d → ∃ v, a.tmps[d]? = some v ∧ VR cx (V i) v
  t2 : ∀ t x, (∀ (i : Nat) (o : Oper), Ls listed i → ops[i]? = some o → o.dst ≠ some t) → st.tm.get t = some x → ∃ v, a.tmps[t]? = some v ∧ VR cx x v
  tsz : st.nt ≤ a.tmps.size
  defers : a.defers = a0.defers
  mem : SR w0 B cx C.h C.nx w
  gl : GlOk E cx
  ext : c.ext st.next cx
  next : st.next ≤ C.nx
  still : ∀ i, i < st.next → c.ρ i = none → C.h.get i = st.heap.get i

section
variable {P : Program} {E : Env} (HE : EnvOk P E) (HF : FnsOk P E) {w0 : World} {B : Nat} {ops : Array Oper} {bef : List Nat} (F : SF E ops bef) {c : Cx} {st : St} {a0 : Act} {es : List Nat}
  {V : Nat → AV} {TM : Nat → T AV} {ID : Nat → Nat} {cx : Cx} {C : Dr} {listed : Array Bool} {a : Act} {w : World}

include F in
/-- what is ahead of what is listed is listed -/
theorem ahead {listed : Array Bool} (hd : ∀ (i : Nat) (o : Oper), Ls listed i → ops[i]? = some o → ∀ e ∈ o.after.toList, Region.binds .any e = true → Ls listed e.on) :
    ∀ (n i : Nat) (o : Oper), i < n → ops[i]? = some o → (∀ e ∈ o.after.toList, Region.binds .any e = true → Ls listed e.on) → ∀ j, bb bef i j → Ls listed j
  | 0, i, o, hi, _, _, j, _ => by omega
  | n + 1, i, o, hi, ho, he, j, ⟨b, hb, hj⟩ => by
    obtain ⟨b', hb', g1, g2⟩ := F.sets i o ho
    rw [hb] at hb'
    cases hb'
    obtain ⟨e, he1, he2, he3⟩ := (g1 j).1 hj
    have hl := he e he1 he2
    have hlt := g2 e he1 he2
    rcases he3 with rfl | hbb
    · exact hl
    · have hi2 : i < ops.size := by
        rcases Nat.lt_or_ge i ops.size with h | h
        · exact h
        · rw [Array.getElem?_eq_none h] at ho; cases ho
      have heo : ops[e.on]? = some ops[e.on] := Array.getElem?_eq_getElem (by omega)
      exact ahead hd n e.on _ (by omega) heo (hd _ _ hl heo) j hbb

include F in
theorem AI.listedAhead (A : AI E w0 B ops bef c st a0 es V TM ID cx C listed a w) {i j : Nat} {o : Oper} (ho : ops[i]? = some o) (h : Ls listed i) (hb : bb bef i j) : Ls listed j :=
  ahead F A.down (i + 1) i o (by omega) ho (A.down i o h ho) j hb

include F in
theorem AI.readyAhead (A : AI E w0 B ops bef c st a0 es V TM ID cx C listed a w) {i j : Nat} {o : Oper} (ho : ops[i]? = some o) (h : ∀ e ∈ o.after.toList, Region.binds .any e = true → Ls listed e.on) (hb : bb bef i j) : Ls listed j :=
  ahead F A.down (i + 1) i o (by omega) ho h j hb

/-- the operands that an operation looks at are among its temporaries -/
theorem mem_tmpsOf {all : List Oper} {o : Oper} {t : Nat} (h : Operand.tmp t ∈ o.op.operands) : t ∈ tmpsOf all o := by
  unfold tmpsOf
  refine List.mem_append_left _ (List.mem_filterMap.2 ⟨.tmp t, by simpa using h, rfl⟩)

theorem mem_tmpsOf_guard {ops : Array Oper} {o : Oper} {j d : Nat} {b : Bool} {oj : Oper} (hg : o.guard = some (j, b)) (hj : nth ops.toList j = some oj) (hd : oj.dst = some d) : d ∈ tmpsOf ops.toList o := by
  unfold tmpsOf
  refine List.mem_append_right _ ?_
  rw [hg]
  simp only [hj, hd]
  simp

/-- the values that an operation sees, in a run that may have come to it by any order -/
def Sees (cx : Cx) (ops : Array Oper) (tm : T AV) (a : Act) (o : Oper) : Prop := ∀ t ∈ tmpsOf ops.toList o, ∀ x, tm.get t = some x → ∃ v, a.tmps[t]? = some v ∧ VR cx x v

theorem Sees.opsR {o : Oper} {tm : T AV} (h : Sees cx ops tm a o) (hg : GlOk E cx) : OpsR cx (evOperand E tm) a.eval o.op := by
  intro x hx v hv
  cases x with
  | tmp t =>
    simp only [evOperand] at hv
    obtain ⟨u, h1, h2⟩ := h t (mem_tmpsOf hx) v hv
    have : a.eval (.tmp t) = u := by simp [Act.eval, h1]
    rw [this]
    exact h2
  | const u => exact cvt_ok cx u v hv
  | global g =>
    simp only [evOperand] at hv
    split at hv
    · rename_i b hb
      cases hv
      exact .ptr (hg g b hb)
    · cases hv
  | func f =>
    simp only [evOperand, Option.some.injEq] at hv
    subst hv
    exact .func rfl (fun k a v h => by simp at h) rfl (fun k a v h => by simp at h)

theorem Sees.wanted {o : Oper} {tm : T AV} (h : Sees cx ops tm a o) {b : Bool} (hw : wantedBy tm.get ops.toList o = some b) : Region.wanted o (yielded ops a.tmps) = b := by
  unfold wantedBy at hw
  unfold Region.wanted
  split at hw
  · rename_i hn
    cases hw
    rw [hn]
  · rename_i j want hn
    rw [hn]
    simp only
    split at hw
    · rename_i oj hj
      have hj0 := hj
      rw [nth_eq, Array.getElem?_toList] at hj
      split at hw
      · rename_i d hd
        have hy : ∀ v, a.tmps[d]? = some v → yielded ops a.tmps j = match v with | .bool b => some b | _ => none := fun v hv => by
          unfold yielded
          rw [hj]
          simp only [Option.bind_some, hd, hv]
          cases v <;> rfl
        have hm := mem_tmpsOf_guard hn hj0 hd
        split at hw
        · rename_i b' hb
          cases hw
          obtain ⟨v, h1, h2⟩ := h d hm _ hb
          rw [hy v h1, h2.boolE]
          cases b' <;> cases want <;> rfl
        · rename_i x hne hb
          cases hw
          obtain ⟨v, h1, h2⟩ := h d hm _ hb
          rw [hy v h1]
          cases h2 <;> first | rfl | exact (hne _ rfl).elim
        · cases hw
      · cases hw
    · cases hw

include F in
/-- what an operation that is ready and done (abstractly) sees -/
theorem AI.sees (A : AI E w0 B ops bef c st a0 es V TM ID cx C listed a w) {i : Nat} {o : Oper} (hD : C.done.testBit i = true) (hL : ¬ Ls listed i) (ho : ops[i]? = some o)
    (hr : ∀ e ∈ o.after.toList, Region.binds .any e = true → Ls listed e.on) : Sees cx ops (TM i) a o := by
  intro t ht x hx
  rcases A.k5 i o hD hL ho t ht x hx with ⟨j, oj, hb, hj, hd, rfl⟩ | ⟨hn, hs⟩
  · exact A.t1 j oj t (A.readyAhead F ho hr hb) hj hd
  · refine A.t2 t x (fun j oj hj hoj hd => ?_) hs
    rcases hn j oj hoj hd with rfl | hbb
    · exact hL hj
    · exact hL (A.listedAhead F hoj hj hbb)

include F in
/-- what the next operation with an effect sees -/
theorem AI.seesEff (A : AI E w0 B ops bef c st a0 es V TM ID cx C listed a w) {i : Nat} {o : Oper} (hD : ¬ C.done.testBit i = true) (ho : ops[i]? = some o)
    (hr : ∀ e ∈ o.after.toList, Region.binds .any e = true → Ls listed e.on) : Sees cx ops C.tm a o := by
  intro t ht x hx
  by_cases hw : ∃ j oj, C.done.testBit j = true ∧ ops[j]? = some oj ∧ oj.dst = some t
  · obtain ⟨j, oj, hj, hoj, hd⟩ := hw
    have hv := (A.k1 j oj t hj hoj hd).1
    rw [hx] at hv
    cases hv
    rcases F.tmp i o ho t ht j oj hoj hd with rfl | hb | hb
    · exact absurd hj hD
    · exact A.t1 j oj t (A.readyAhead F ho hr hb) hoj hd
    · exact absurd (A.doneDown j i hj hb) hD
  · have h2 : ∀ (j : Nat) (oj : Oper), C.done.testBit j = true → ops[j]? = some oj → oj.dst ≠ some t := fun j oj h1 h2 h3 => hw ⟨j, oj, h1, h2, h3⟩
    rw [A.k2 t h2] at hx
    exact A.t2 t x (fun j oj hj hoj hd => h2 j oj (A.sub j hj) hoj hd) hx

end
end Ev
end Go.Proofs.YtfmnoohkllmbmaaGreatDoor
