/- The evaluator, part 3. -/
import Derived.Test.YtadkimnpeachpaaGreatDoorEvM2
set_option linter.unusedVariables false
set_option linter.unusedSimpArgs false
namespace Go.Proofs.YtadkimnpeachpaaGreatDoor
namespace Ev
open Go.RowKit

/-! ### Sets of operations as numbers -/
theorem bit_eq (s i : Nat) : bit s i = s.testBit i := by
  unfold bit
  have h : Nat.land (Nat.shiftRight s i) 1 = s / 2 ^ i % 2 := by
    show (s >>> i) &&& 1 = _
    rw [Nat.and_one_is_mod, Nat.shiftRight_eq_div_pow]
  rw [h, Nat.testBit_eq_decide_div_mod_eq]
  by_cases hh : s / 2 ^ i % 2 = 1
  · rw [hh]; rfl
  · have : Nat.beq (s / 2 ^ i % 2) 1 = false := by cases hb : Nat.beq (s / 2 ^ i % 2) 1 with | false => rfl | true => exact absurd (Nat.eq_of_beq_eq_true hb) hh
    rw [this]
    simp [hh]

theorem within_ok {b s : Nat} (h : within b s = true) (j : Nat) (hj : b.testBit j = true) : s.testBit j = true := by
  unfold within at h
  have h := Nat.eq_of_beq_eq_true h
  have : (b &&& s).testBit j = true := by
    show (Nat.land b s).testBit j = true
    rw [h]
    exact hj
  rw [Nat.testBit_and] at this
  simp at this
  exact this.2

theorem testBit_add (s i j : Nat) : (Nat.lor s (2 ^ i)).testBit j = (s.testBit j || decide (i = j)) := by
  show (s ||| 2 ^ i).testBit j = _
  rw [Nat.testBit_or, Nat.testBit_two_pow]

def bb (bef : List Nat) (i j : Nat) : Prop := ∃ b, nth bef i = some b ∧ b.testBit j = true

theorem befOf_ok (bef : List Nat) (i : Nat) : ∀ (es : List Edge) (s b : Nat), befOf bef i es s = some b →
    (∀ j, b.testBit j = true ↔ s.testBit j = true ∨ ∃ e ∈ es, Region.binds .any e = true ∧ (e.on = j ∨ bb bef e.on j)) ∧ (∀ e ∈ es, Region.binds .any e = true → e.on < i)
  | [], s, b, h => by
    simp only [befOf, Option.some.injEq] at h
    subst h
    exact ⟨fun j => by simp, fun e he => by cases he⟩
  | e :: es, s, b, h => by
    simp only [befOf] at h
    split at h
    · rename_i hb
      obtain ⟨h1, h2⟩ := befOf_ok bef i es s b h
      refine ⟨fun j => ?_, fun e' he' hb' => ?_⟩
      · rw [h1 j]
        constructor
        · rintro (h | ⟨e', he', hr⟩)
          · exact .inl h
          · exact .inr ⟨e', by simp [he'], hr⟩
        · rintro (h | ⟨e', he', hr⟩)
          · exact .inl h
          · cases he' with
            | head => rw [hb] at hr; cases hr.1
            | tail _ he' => exact .inr ⟨e', he', hr⟩
      · cases he' with
        | head => rw [hb] at hb'; cases hb'
        | tail _ he' => exact h2 e' he' hb'
    · rename_i hb
      split at h
      · rename_i b0 hlt hn
        rw [Nat.blt_eq] at hlt
        obtain ⟨h1, h2⟩ := befOf_ok bef i es _ b h
        refine ⟨fun j => ?_, fun e' he' hb' => ?_⟩
        · rw [h1 j]
          have e1 : (Nat.lor (Nat.lor s (2 ^ e.on)) b0).testBit j = (s.testBit j || decide (e.on = j) || b0.testBit j) := by
            show ((Nat.lor s (2 ^ e.on)) ||| b0).testBit j = _
            rw [Nat.testBit_or, testBit_add]
          rw [e1]
          simp only [Bool.or_eq_true, decide_eq_true_eq]
          constructor
          · rintro (((h | h) | h) | ⟨e', he', hr⟩)
            · exact .inl h
            · exact .inr ⟨e, by simp, hb, .inl h⟩
            · exact .inr ⟨e, by simp, hb, .inr ⟨b0, hn, h⟩⟩
            · exact .inr ⟨e', by simp [he'], hr⟩
          · rintro (h | ⟨e', he', hr1, hr2⟩)
            · exact .inl (.inl (.inl h))
            · cases he' with
              | head =>
                rcases hr2 with h | ⟨b1, hb1, h⟩
                · exact .inl (.inl (.inr h))
                · rw [hn] at hb1
                  cases hb1
                  exact .inl (.inr h)
              | tail _ he' => exact .inr ⟨e', he', hr1, hr2⟩
        · cases he' with
          | head => exact hlt
          | tail _ he' => exact h2 e' he' hb'
      · cases h

/-- what the checks of a region say -/
structure SF (E : Env) (ops : Array Oper) (bef : List Nat) : Prop where
  sets : ∀ (i : Nat) (o : Oper), ops[i]? = some o → ∃ b, nth bef i = some b ∧ (∀ j, b.testBit j = true ↔ ∃ e ∈ o.after.toList, Region.binds .any e = true ∧ (e.on = j ∨ bb bef e.on j)) ∧
    (∀ e ∈ o.after.toList, Region.binds .any e = true → e.on < i)
  dst : ∀ (i j : Nat) (oi oj : Oper) (d : Nat), ops[i]? = some oi → ops[j]? = some oj → oi.dst = some d → oj.dst = some d → i = j
  tmp : ∀ (j : Nat) (oj : Oper), ops[j]? = some oj → ∀ t ∈ tmpsOf ops.toList oj, ∀ (i : Nat) (oi : Oper), ops[i]? = some oi → oi.dst = some t → i = j ∨ bb bef j i ∨ bb bef i j

theorem okBef_ok (bef : List Nat) : ∀ (l : List Oper) (k : Nat), okBef bef l k = true → ∀ (i : Nat) (o : Oper), l[i]? = some o → ∃ b, nth bef (k + i) = some b ∧ befOf bef (k + i) o.after.toList 0 = some b
  | [], k, _, i, o, h => by simp at h
  | x :: l, k, h, i, o, hi => by
    simp only [okBef] at h
    split at h
    · rename_i b b' hb hb'
      split at h
      · rename_i hbb
        have hbb := Nat.eq_of_beq_eq_true hbb
        cases i with
        | zero =>
          simp at hi
          subst hi
          exact ⟨b, hb, by rw [hbb]; exact hb'⟩
        | succ i =>
          simp at hi
          have := okBef_ok bef l (k + 1) h i o hi
          rw [show k + (i + 1) = k + 1 + i by omega]
          exact this
      · cases h
    · cases h

theorem dstFree_ok (d : Nat) : ∀ (l : List Oper), dstFree d l = true → ∀ o ∈ l, o.dst ≠ some d
  | [], _, o, h => by cases h
  | x :: l, h, o, ho => by
    simp only [dstFree] at h
    cases ho with
    | head =>
      split at h
      · rename_i e he
        split at h
        · cases h
        · rename_i hn
          rw [he]
          intro hh
          cases hh
          exact Nat.ne_of_beq_eq_false hn rfl
      · rename_i he
        rw [he]
        simp
    | tail _ ho =>
      split at h
      · split at h
        · cases h
        · exact dstFree_ok d l h o ho
      · exact dstFree_ok d l h o ho

theorem okDsts_ok : ∀ (l : List Oper), okDsts l = true → ∀ (i j : Nat) (oi oj : Oper) (d : Nat), l[i]? = some oi → l[j]? = some oj → oi.dst = some d → oj.dst = some d → i = j
  | [], _, i, j, oi, oj, d, h, _, _, _ => by simp at h
  | x :: l, h, i, j, oi, oj, d, hi, hj, hdi, hdj => by
    simp only [okDsts] at h
    have rest : okDsts l = true := by
      split at h
      · split at h
        · exact h
        · cases h
      · exact h
    have hd : ∀ o ∈ l, x.dst = some d → o.dst ≠ some d := fun o ho hx => by
      rw [hx] at h
      simp only at h
      split at h
      · rename_i hf
        exact dstFree_ok d l hf o ho
      · cases h
    cases i with
    | zero =>
      simp at hi
      subst hi
      cases j with
      | zero => rfl
      | succ j =>
        simp at hj
        exact absurd hdj (hd oj (List.mem_of_getElem? hj) hdi)
    | succ i =>
      simp at hi
      cases j with
      | zero =>
        simp at hj
        subst hj
        exact absurd hdi (hd oi (List.mem_of_getElem? hi) hdj)
      | succ j =>
        simp at hj
        rw [okDsts_ok l rest i j oi oj d hi hj hdi hdj]

theorem okTmp_ok (bef : List Nat) (b j t : Nat) : ∀ (l : List Oper) (k : Nat), okTmp bef b j t l k = true → ∀ (i : Nat) (o : Oper), l[i]? = some o → o.dst = some t → k + i = j ∨ b.testBit (k + i) = true ∨ bb bef (k + i) j
  | [], k, _, i, o, h, _ => by simp at h
  | x :: l, k, h, i, o, hi, hd => by
    simp only [okTmp] at h
    cases i with
    | zero =>
      simp at hi
      subst hi
      rw [hd] at h
      simp only [Nat.add_zero]
      have hbeq : Nat.beq t t = true := Nat.beq_refl t
      simp only [hbeq] at h
      split at h
      · rename_i hk; exact .inl (Nat.eq_of_beq_eq_true hk)
      · split at h
        · rename_i hb; rw [bit_eq] at hb; exact .inr (.inl hb)
        · split at h
          · rename_i bi hbi
            split at h
            · rename_i hb; rw [bit_eq] at hb; exact .inr (.inr ⟨bi, hbi, hb⟩)
            · cases h
          · cases h
    | succ i =>
      simp at hi
      have rest : okTmp bef b j t l (k + 1) = true := by
        revert h
        split
        · exact id
        · split
          · exact id
          · split
            · exact id
            · split
              · exact id
              · split
                · split
                  · exact id
                  · intro h; cases h
                · intro h; cases h
      have := okTmp_ok bef b j t l (k + 1) rest i o hi hd
      rw [show k + (i + 1) = k + 1 + i by omega]
      exact this

theorem okTmps_ok (bef : List Nat) (all : List Oper) : ∀ (l : List Oper) (k : Nat), okTmps bef all l k = true → ∀ (j : Nat) (oj : Oper), l[j]? = some oj → ∀ t ∈ tmpsOf all oj, ∀ (i : Nat) (oi : Oper), all[i]? = some oi → oi.dst = some t →
    i = k + j ∨ bb bef (k + j) i ∨ bb bef i (k + j)
  | [], k, _, j, oj, h => by simp at h
  | x :: l, k, h, j, oj, hj => by
    simp only [okTmps] at h
    split at h
    · cases h
    · rename_i b hb
      simp only [Bool.and_eq_true, List.all_eq_true] at h
      cases j with
      | zero =>
        simp at hj
        subst hj
        intro t ht i oi hi hd
        have := okTmp_ok bef b k t all 0 (h.1 t ht) i oi hi hd
        simp only [Nat.zero_add] at this
        rcases this with h1 | h1 | h1
        · exact .inl h1
        · exact .inr (.inl ⟨b, hb, h1⟩)
        · exact .inr (.inr h1)
      | succ j =>
        simp at hj
        have := okTmps_ok bef all l (k + 1) h.2 j oj hj
        rw [show k + (j + 1) = k + 1 + j by omega]
        exact this

theorem sf_ok {E : Env} {ops : Array Oper} {bef : List Nat} (h1 : okBef bef ops.toList 0 = true) (h2 : okDsts ops.toList = true) (h3 : okTmps bef ops.toList ops.toList 0 = true) : SF E ops bef := by
  have get : ∀ (i : Nat) (o : Oper), ops[i]? = some o → ops.toList[i]? = some o := fun i o h => by rw [Array.getElem?_toList]; exact h
  refine ⟨fun i o hi => ?_, fun i j oi oj d hi hj hdi hdj => okDsts_ok _ h2 i j oi oj d (get i oi hi) (get j oj hj) hdi hdj, fun j oj hj t ht i oi hi hd => ?_⟩
  · obtain ⟨b, hb, hb'⟩ := okBef_ok bef _ 0 h1 i o (get i o hi)
    simp only [Nat.zero_add] at hb hb'
    obtain ⟨g1, g2⟩ := befOf_ok bef i _ 0 b hb'
    exact ⟨b, hb, fun j => by rw [g1 j]; simp, g2⟩
  · have := okTmps_ok bef _ _ 0 h3 j oj (get j oj hj) t ht i oi (get i oi hi) hd
    simpa using this

end Ev
end Go.Proofs.YtadkimnpeachpaaGreatDoor
/- The evaluator: EvDraw2P. -/
set_option linter.unusedVariables false
set_option linter.unusedSimpArgs false
namespace Go.Proofs.YtadkimnpeachpaaGreatDoor
namespace Ev
open Go.RowKit

def Ls (listed : Array Bool) (i : Nat) : Prop := listed.getD i false = true

/-- what an operation without effects yields, whenever it comes up -/
def Fact (E : Env) (ops : Array Oper) (st : St) (cx : Cx) (C : Dr) (v : AV) (tm : T AV) (id : Nat) (i : Nat) (o : Oper) : Prop :=
  (wantedBy tm.get ops.toList o = some false ∧ v = .tup []) ∨
  (wantedBy tm.get ops.toList o = some true ∧
    ((kindOf E o = .pure ∧ evPure E (evOperand E tm) .leaf o = some v) ∨
     (kindOf E o = .read ∧ evPure E (evOperand E tm) C.h o = some v ∧ (i, o, tm, v) ∈ C.pend) ∨
     (kindOf E o = .new ∧ ∃ blk f, evNew E (evOperand E tm) o = some (blk, f) ∧ v = f id ∧ C.h.get id = some blk ∧ cx.ρ id = none ∧ id < C.nx ∧ st.next ≤ id)))

structure AI (E : Env) (w0 : World) (B : Nat) (ops : Array Oper) (bef : List Nat) (c : Cx) (st : St) (a0 : Act) (es : List Nat) (V : Nat → AV) (TM : Nat → T AV) (ID : Nat → Nat)
    (cx : Cx) (C : Dr) (listed : Array Bool) (a : Act) (w : World) : Prop where
  size : listed.size = ops.size
  sub : ∀ i, Ls listed i → C.done.testBit i = true
  down : ∀ (i : Nat) (o : Oper), Ls listed i → ops[i]? = some o → ∀ e ∈ o.after.toList, Region.binds .any e = true → Ls listed e.on
  doneLt : ∀ i, C.done.testBit i = true → i < ops.size
  doneDown : ∀ i j, C.done.testBit i = true → bb bef i j → C.done.testBit j = true
  effDone : ∀ (i : Nat) (o : Oper), C.done.testBit i = true → ops[i]? = some o → isEff E o = true → Ls listed i
  effAll : ∀ (i : Nat) (o : Oper), ops[i]? = some o → isEff E o = true → C.done.testBit i = true ∨ i ∈ es
  k1 : ∀ (i : Nat) (o : Oper) (d : Nat), C.done.testBit i = true → ops[i]? = some o → o.dst = some d → C.tm.get d = some (V i) ∧ d < st.nt
  k2 : ∀ t, (∀ (i : Nat) (o : Oper), C.done.testBit i = true → ops[i]? = some o → o.dst ≠ some t) → C.tm.get t = st.tm.get t
  k5 : ∀ (i : Nat) (o : Oper), C.done.testBit i = true → ¬ Ls listed i → ops[i]? = some o → ∀ t ∈ tmpsOf ops.toList o, ∀ x, (TM i).get t = some x →
    (∃ j oj, bb bef i j ∧ ops[j]? = some oj ∧ oj.dst = some t ∧ V j = x) ∨ ((∀ (j : Nat) (oj : Oper), ops[j]? = some oj → oj.dst = some t → j = i ∨ bb bef j i) ∧ st.tm.get t = some x)
  fact : ∀ (i : Nat) (o : Oper), C.done.testBit i = true → ¬ Ls listed i → ops[i]? = some o → Fact E ops st cx C (V i) (TM i) (ID i) i o
  ids : ∀ (i j : Nat) (oi oj : Oper), C.done.testBit i = true → C.done.testBit j = true → ¬ Ls listed i → ¬ Ls listed j → ops[i]? = some oi → ops[j]? = some oj → kindOf E oi = .new → kindOf E oj = .new →
    wantedBy (TM i).get ops.toList oi = some true → wantedBy (TM j).get ops.toList oj = some true → ID i = ID j → i = j
  t1 : ∀ (i : Nat) (o : Oper) (d : Nat), Ls listed i → ops[i]? = some o → o.dst = some d → ∃ v, a.tmps[d]? = some v ∧ VR cx (V i) v
  t2 : ∀ t x, (∀ (i : Nat) (o : Oper), Ls listed i → ops[i]? = some o → o.dst ≠ some t) → st.tm.get t = some x → ∃ v, a.tmps[t]? = some v ∧ VR cx x v
  tsz : st.nt ≤ a.tmps.size
  defers : a.defers = a0.defers
  mem : SR w0 B cx C.h C.nx w
  gl : GlOk E cx
  ext : c.ext st.next cx
  next : st.next ≤ C.nx
  still : ∀ i, i < st.next → c.ρ i = none → C.h.get i = st.heap.get i

section
variable {P : Program} {E : Env} (HE : EnvOk P E) (HF : FnsOk P E) {w0 : World} {B : Nat} {ops : Array Oper} {bef : List Nat} (F : SF E ops bef) {c : Cx} {st : St} {a0 : Act} {es : List Nat}
  {V : Nat → AV} {TM : Nat → T AV} {ID : Nat → Nat} {cx : Cx} {C : Dr} {listed : Array Bool} {a : Act} {w : World}

include F in
/-- what is ahead of what is listed is listed -/
theorem ahead {listed : Array Bool} (hd : ∀ (i : Nat) (o : Oper), Ls listed i → ops[i]? = some o → ∀ e ∈ o.after.toList, Region.binds .any e = true → Ls listed e.on) :
    ∀ (n i : Nat) (o : Oper), i < n → ops[i]? = some o → (∀ e ∈ o.after.toList, Region.binds .any e = true → Ls listed e.on) → ∀ j, bb bef i j → Ls listed j
  | 0, i, o, hi, _, _, j, _ => by omega
  | n + 1, i, o, hi, ho, he, j, ⟨b, hb, hj⟩ => by
    obtain ⟨b', hb', g1, g2⟩ := F.sets i o ho
    rw [hb] at hb'
    cases hb'
    obtain ⟨e, he1, he2, he3⟩ := (g1 j).1 hj
    have hl := he e he1 he2
    have hlt := g2 e he1 he2
    rcases he3 with rfl | hbb
    · exact hl
    · have hi2 : i < ops.size := by
        rcases Nat.lt_or_ge i ops.size with h | h
        · exact h
        · rw [Array.getElem?_eq_none h] at ho; cases ho
      have heo : ops[e.on]? = some ops[e.on] := Array.getElem?_eq_getElem (by omega)
      exact ahead hd n e.on _ (by omega) heo (hd _ _ hl heo) j hbb

include F in
theorem AI.listedAhead (A : AI E w0 B ops bef c st a0 es V TM ID cx C listed a w) {i j : Nat} {o : Oper} (ho : ops[i]? = some o) (h : Ls listed i) (hb : bb bef i j) : Ls listed j :=
  ahead F A.down (i + 1) i o (by omega) ho (A.down i o h ho) j hb

include F in
theorem AI.readyAhead (A : AI E w0 B ops bef c st a0 es V TM ID cx C listed a w) {i j : Nat} {o : Oper} (ho : ops[i]? = some o) (h : ∀ e ∈ o.after.toList, Region.binds .any e = true → Ls listed e.on) (hb : bb bef i j) : Ls listed j :=
  ahead F A.down (i + 1) i o (by omega) ho h j hb

/-- the operands that an operation looks at are among its temporaries -/
theorem mem_tmpsOf {all : List Oper} {o : Oper} {t : Nat} (h : Operand.tmp t ∈ o.op.operands) : t ∈ tmpsOf all o := by
  unfold tmpsOf
  refine List.mem_append_left _ (List.mem_filterMap.2 ⟨.tmp t, by simpa using h, rfl⟩)

theorem mem_tmpsOf_guard {ops : Array Oper} {o : Oper} {j d : Nat} {b : Bool} {oj : Oper} (hg : o.guard = some (j, b)) (hj : nth ops.toList j = some oj) (hd : oj.dst = some d) : d ∈ tmpsOf ops.toList o := by
  unfold tmpsOf
  refine List.mem_append_right _ ?_
  rw [hg]
  simp only [hj, hd]
  simp

/-- the values that an operation sees, in a run that may have come to it by any order -/
def Sees (cx : Cx) (ops : Array Oper) (tm : T AV) (a : Act) (o : Oper) : Prop := ∀ t ∈ tmpsOf ops.toList o, ∀ x, tm.get t = some x → ∃ v, a.tmps[t]? = some v ∧ VR cx x v

theorem Sees.opsR {o : Oper} {tm : T AV} (h : Sees cx ops tm a o) (hg : GlOk E cx) : OpsR cx (evOperand E tm) a.eval o.op := by
  intro x hx v hv
  cases x with
  | tmp t =>
    simp only [evOperand] at hv
    obtain ⟨u, h1, h2⟩ := h t (mem_tmpsOf hx) v hv
    have : a.eval (.tmp t) = u := by simp [Act.eval, h1]
    rw [this]
    exact h2
  | const u => exact cvt_ok cx u v hv
  | global g =>
    simp only [evOperand] at hv
    split at hv
    · rename_i b hb
      cases hv
      exact .ptr (hg g b hb)
    · cases hv
  | func f =>
    simp only [evOperand, Option.some.injEq] at hv
    subst hv
    exact .func rfl (fun k a v h => by simp at h) rfl (fun k a v h => by simp at h)

theorem Sees.wanted {o : Oper} {tm : T AV} (h : Sees cx ops tm a o) {b : Bool} (hw : wantedBy tm.get ops.toList o = some b) : Region.wanted o (yielded ops a.tmps) = b := by
  unfold wantedBy at hw
  unfold Region.wanted
  split at hw
  · rename_i hn
    cases hw
    rw [hn]
  · rename_i j want hn
    rw [hn]
    simp only
    split at hw
    · rename_i oj hj
      have hj0 := hj
      rw [nth_eq, Array.getElem?_toList] at hj
      split at hw
      · rename_i d hd
        have hy : ∀ v, a.tmps[d]? = some v → yielded ops a.tmps j = match v with | .bool b => some b | _ => none := fun v hv => by
          unfold yielded
          rw [hj]
          simp only [Option.bind_some, hd, hv]
          cases v <;> rfl
        have hm := mem_tmpsOf_guard hn hj0 hd
        split at hw
        · rename_i b' hb
          cases hw
          obtain ⟨v, h1, h2⟩ := h d hm _ hb
          rw [hy v h1, h2.boolE]
          cases b' <;> cases want <;> rfl
        · rename_i x hne hb
          cases hw
          obtain ⟨v, h1, h2⟩ := h d hm _ hb
          rw [hy v h1]
          cases h2 <;> first | rfl | exact (hne _ rfl).elim
        · cases hw
      · cases hw
    · cases hw

include F in
/-- what an operation that is ready and done (abstractly) sees -/
theorem AI.sees (A : AI E w0 B ops bef c st a0 es V TM ID cx C listed a w) {i : Nat} {o : Oper} (hD : C.done.testBit i = true) (hL : ¬ Ls listed i) (ho : ops[i]? = some o)
    (hr : ∀ e ∈ o.after.toList, Region.binds .any e = true → Ls listed e.on) : Sees cx ops (TM i) a o := by
  intro t ht x hx
  rcases A.k5 i o hD hL ho t ht x hx with ⟨j, oj, hb, hj, hd, rfl⟩ | ⟨hn, hs⟩
  · exact A.t1 j oj t (A.readyAhead F ho hr hb) hj hd
  · refine A.t2 t x (fun j oj hj hoj hd => ?_) hs
    rcases hn j oj hoj hd with rfl | hbb
    · exact hL hj
    · exact hL (A.listedAhead F hoj hj hbb)

include F in
/-- what the next operation with an effect sees -/
theorem AI.seesEff (A : AI E w0 B ops bef c st a0 es V TM ID cx C listed a w) {i : Nat} {o : Oper} (hD : ¬ C.done.testBit i = true) (ho : ops[i]? = some o)
    (hr : ∀ e ∈ o.after.toList, Region.binds .any e = true → Ls listed e.on) : Sees cx ops C.tm a o := by
  intro t ht x hx
  by_cases hw : ∃ j oj, C.done.testBit j = true ∧ ops[j]? = some oj ∧ oj.dst = some t
  · obtain ⟨j, oj, hj, hoj, hd⟩ := hw
    have hv := (A.k1 j oj t hj hoj hd).1
    rw [hx] at hv
    cases hv
    rcases F.tmp i o ho t ht j oj hoj hd with rfl | hb | hb
    · exact absurd hj hD
    · exact A.t1 j oj t (A.readyAhead F ho hr hb) hoj hd
    · exact absurd (A.doneDown j i hj hb) hD
  · have h2 : ∀ (j : Nat) (oj : Oper), C.done.testBit j = true → ops[j]? = some oj → oj.dst ≠ some t := fun j oj h1 h2 h3 => hw ⟨j, oj, h1, h2, h3⟩
    rw [A.k2 t h2] at hx
    exact A.t2 t x (fun j oj hj hoj hd => h2 j oj (A.sub j hj) hoj hd) hx

end
end Ev
end Go.Proofs.YtadkimnpeachpaaGreatDoor
/- The evaluator: EvDraw3P. -/
set_option linter.unusedVariables false
set_option linter.unusedSimpArgs false
namespace Go.Proofs.YtadkimnpeachpaaGreatDoor
namespace Ev
open Go.RowKit

theorem rd_mono {h h' : T ABk} (hh : ∀ i x, h.get i = some x → h'.get i = some x) {b o n : Nat} {xs : List AV} (he : rd h b o n = some xs) : rd h' b o n = some xs := by
  unfold rd at he ⊢
  split at he
  · rename_i hg
    rw [hh _ _ hg]
    exact he
  · cases he

theorem evPure_mono {E : Env} {r : Operand → Option AV} {h h' : T ABk} (hh : ∀ i x, h.get i = some x → h'.get i = some x) {o : Oper} (hk : kindOf E o = .read) {v : AV} (he : evPure E r h o = some v) : evPure E r h' o = some v := by
  obtain ⟨dst, op, type, pos, after, guard⟩ := o
  cases op
  case load t x =>
    simp only [evPure] at he ⊢
    split at he
    · rename_i b o ti hx hti
      split at he
      · cases hr : rd h b o ti.size with
        | none => rw [hr] at he; cases he
        | some xs => rw [hr] at he; rw [rd_mono hh hr]; exact he
      · split at he
        · rename_i hg
          rw [hh _ _ hg]
          exact he
        · cases he
    · cases he
  case lookup t x i ok =>
    simp only [evPure] at he ⊢
    split at he
    · rename_i vx key ti hx hi hti
      split at he
      · rename_i k e hd
        split at he
        · cases he
        · rename_i ei hei
          cases hko : keyOk E 20 k key with
          | false => rw [hko] at he; exact he
          | true =>
            rw [hko] at he
            dsimp only at he ⊢
            cases vx with
            | map b =>
              dsimp only at he ⊢
              cases hg : h.get b with
              | none => rw [hg] at he; dsimp only at he; rw [lookAns_none] at he; cases he
              | some bk =>
                rw [hg] at he
                rw [hh _ _ hg]
                exact he
            | _ => exact he
      · cases he
    · cases he
  case call cl =>
    obtain ⟨callee, args, argTypes⟩ := cl
    cases callee with
    | value f => simp [kindOf] at hk
    | invoke a b => simp [kindOf] at hk
    | builtin b =>
      simp only [evPure] at he ⊢
      split at he
      · cases he
      · rename_i l hl
        cases b <;> try (simp [kindOf] at hk; done)
        split at he <;> try (rename_i heq _; cases heq; done)
        · rename_i heq
          split at he
          · rename_i t ht
            unfold evLen at he ⊢
            split at he
            · cases he
            · rename_i ti hti
              split at he <;> try exact he
              split at he
              · rename_i hg
                rw [hh _ _ hg]
                exact he
              · cases he
          · cases he
        all_goals first | (cases he; done) | (rename_i heq; cases heq; done) | skip
  all_goals (simp [kindOf] at hk)
  all_goals (try (split at hk <;> try (cases hk; done)))
  all_goals (try (split at hk <;> try (cases hk; done)))

end Ev
end Go.Proofs.YtadkimnpeachpaaGreatDoor
/- The evaluator: EvDraw4P. -/
set_option linter.unusedVariables false
set_option linter.unusedSimpArgs false
namespace Go.Proofs.YtadkimnpeachpaaGreatDoor
namespace Ev
open Go.RowKit

theorem ls_set {listed : Array Bool} {i j : Nat} (hi : i < listed.size) : Ls (listed.setIfInBounds i true) j ↔ j = i ∨ Ls listed j := by
  unfold Ls
  by_cases h : j = i
  · subst h
    simp [hi]
  · rw [getD_set_ne false (Ne.symm h)]
    simp [h]

section
variable {P : Program} {E : Env} (HE : EnvOk P E) (HF : FnsOk P E) {w0 : World} {B : Nat} {ops : Array Oper} {bef : List Nat} (F : SF E ops bef) {c : Cx} {st : St} {a0 : Act} {es : List Nat}
  {V : Nat → AV} {TM : Nat → T AV} {ID : Nat → Nat} {cx : Cx} {C : Dr} {listed : Array Bool} {a : Act} {w : World}

include F in
/-- an operation has come up: the memory may have grown by its block -/
theorem AI.list (A : AI E w0 B ops bef c st a0 es V TM ID cx C listed a w) {i : Nat} {o : Oper} (hD : C.done.testBit i = true) (hL : ¬ Ls listed i) (ho : ops[i]? = some o) (hne : isEff E o = false)
    (hr : ∀ e ∈ o.after.toList, Region.binds .any e = true → Ls listed e.on) {cx' : Cx} {w' : World} {val : Value} (hc : cx.le cx') (hS : SR w0 B cx' C.h C.nx w') (hx : c.ext st.next cx') (hv : VR cx' (V i) val)
    (hid : ∀ id, cx.ρ id = none → cx'.ρ id = none ∨ (id = ID i ∧ kindOf E o = .new ∧ wantedBy (TM i).get ops.toList o = some true)) :
    AI E w0 B ops bef c st a0 es V TM ID cx' C (listed.setIfInBounds i true) (a.put o.dst val) w' := by
  have hi : i < ops.size := A.doneLt i hD
  have hil : i < listed.size := by rw [A.size]; exact hi
  have key : ∀ j, Ls (listed.setIfInBounds i true) j ↔ j = i ∨ Ls listed j := fun j => ls_set hil
  have nkey : ∀ j, ¬ Ls (listed.setIfInBounds i true) j → j ≠ i ∧ ¬ Ls listed j := fun j h => ⟨fun e => h ((key j).2 (.inl e)), fun e => h ((key j).2 (.inr e))⟩
  have tmps : ∀ t v, (o.dst ≠ some t) → a.tmps[t]? = some v → (a.put o.dst val).tmps[t]? = some v := fun t v hd hv' => by
    cases hdst : o.dst with
    | none => exact hv'
    | some d =>
      simp only [Act.put]
      rw [Array.getElem?_setIfInBounds_ne (fun e => hd (by rw [hdst, e]))]
      exact hv'
  refine
    { size := by simp [A.size], sub := fun j hj => ?_, down := fun j oj hj hoj e he hb => ?_, doneLt := A.doneLt, doneDown := A.doneDown, effDone := fun j oj h1 h2 h3 => (key j).2 (.inr (A.effDone j oj h1 h2 h3)),
      effAll := A.effAll, k1 := A.k1, k2 := A.k2, k5 := fun j oj h1 h2 h3 => A.k5 j oj h1 (nkey j h2).2 h3, fact := fun j oj h1 h2 h3 => ?_, ids := fun j k oj ok h1 h2 h3 h4 => A.ids j k oj ok h1 h2 (nkey j h3).2 (nkey k h4).2,
      t1 := fun j oj d hj hoj hd => ?_, t2 := fun t x hn hs => ?_, tsz := ?_, defers := ?_, mem := hS, gl := A.gl.mono hc, ext := hx, next := A.next, still := A.still }
  · rcases (key j).1 hj with rfl | h
    · exact hD
    · exact A.sub j h
  · rcases (key j).1 hj with rfl | h
    · rw [ho] at hoj
      cases hoj
      exact (key e.on).2 (.inr (hr e he hb))
    · exact (key e.on).2 (.inr (A.down j oj h hoj e he hb))
  · obtain ⟨hji, hjl⟩ := nkey j h2
    have hf := A.fact j oj h1 hjl h3
    unfold Fact at hf ⊢
    rcases hf with hf | ⟨hw, hf | hf | ⟨hk, blk, f, g1, g2, g3, g4, g5, g6⟩⟩
    · exact .inl hf
    · exact .inr ⟨hw, .inl hf⟩
    · exact .inr ⟨hw, .inr (.inl hf)⟩
    · refine .inr ⟨hw, .inr (.inr ⟨hk, blk, f, g1, g2, g3, ?_, g5, g6⟩)⟩
      rcases hid _ g4 with h | ⟨h, hk', hw'⟩
      · exact h
      · exact absurd (A.ids j i oj o h1 hD hjl hL h3 ho hk hk' hw hw' h) hji
  · rcases (key j).1 hj with rfl | h
    · rw [ho] at hoj
      cases hoj
      have := (A.k1 j o d hD ho hd).2
      refine ⟨val, ?_, hv⟩
      rw [hd]
      simp only [Act.put]
      rw [Array.getElem?_setIfInBounds_self_of_lt (Nat.lt_of_lt_of_le this A.tsz)]
    · obtain ⟨v, h1, h2⟩ := A.t1 j oj d h hoj hd
      refine ⟨v, tmps d v (fun e => ?_) h1, h2.mono hc⟩
      exact hL (F.dst j i oj o d hoj ho hd e ▸ h)
  · obtain ⟨v, h1, h2⟩ := A.t2 t x (fun j oj hj => hn j oj ((key j).2 (.inr hj))) hs
    exact ⟨v, tmps t v (hn i o ((key i).2 (.inl rfl)) ho) h1, h2.mono hc⟩
  · cases o.dst <;> simp [Act.put, A.tsz]
  · cases o.dst <;> exact A.defers

theorem HR_leaf (c : Cx) (B : Nat) (w : World) : HR c B .leaf w := ⟨fun i x b h => (by cases h), fun i j x y b h => (by cases h)⟩

include HE F in
/-- an operation without effects comes up -/
theorem AI.one (A : AI E w0 B ops bef c st a0 es V TM ID cx C listed a w) {i : Nat} {o : Oper} (hD : C.done.testBit i = true) (hL : ¬ Ls listed i) (ho : ops[i]? = some o) (hne : isEff E o = false)
    (hr : ∀ e ∈ o.after.toList, Region.binds .any e = true → Ls listed e.on) {K : Act → World → Prop} {Q : Exit → Act → World → Prop}
    (hK : ∀ cx' a' w', cx.le cx' → AI E w0 B ops bef c st a0 es V TM ID cx' C (listed.setIfInBounds i true) a' w' → K a' w') : wpOp P ops Q i K a w := by
  have hsee := A.sees F hD hL ho hr
  have hops := hsee.opsR A.gl
  unfold wpOp
  rw [ho]
  simp only
  have hf := A.fact i o hD hL ho
  unfold Fact at hf
  rcases hf with ⟨hw, hv⟩ | ⟨hw, hf⟩
  · rw [hsee.wanted hw]
    simp only [Bool.false_eq_true, if_false]
    exact hK cx _ _ (Cx.le.refl _) (A.list F hD hL ho hne hr (Cx.le.refl _) A.mem A.ext (by rw [hv]; exact LR.tup (arr := #[]) (LR.nil cx)) (fun id h => .inl h))
  · rw [hsee.wanted hw]
    simp only [if_true]
    refine .inl ?_
    rcases hf with ⟨hk, hf⟩ | ⟨hk, hf, _⟩ | ⟨hk, blk, f, g1, g2, g3, g4, g5, g6⟩
    · obtain ⟨val, h1, h2⟩ := evPure_ok HE (HR_leaf cx B w) o hops hf
      unfold Oper.wp
      rw [h1]
      exact hK cx _ _ (Cx.le.refl _) (A.list F hD hL ho hne hr (Cx.le.refl _) A.mem A.ext h2 (fun id h => .inl h))
    · obtain ⟨val, h1, h2⟩ := evPure_ok HE A.mem.heap o hops hf
      unfold Oper.wp
      rw [h1]
      exact hK cx _ _ (Cx.le.refl _) (A.list F hD hL ho hne hr (Cx.le.refl _) A.mem A.ext h2 (fun id h => .inl h))
    · obtain ⟨obj, val, w1, κ, h1, h2, h3⟩ := evNew_ok HE A.mem.size o hops g1
      obtain ⟨h4, h5⟩ := h3 (ID i) g4
      have S1 : SR w0 B cx C.h C.nx w1 := by rcases h2 with rfl | rfl; exact A.mem; exact A.mem.drew
      have hs : w1.heap.size = w.heap.size := by rcases h2 with rfl | rfl <;> rfl
      rw [← hs] at h4 h5
      have S' : SR w0 B (cx.add (ID i) w1.heap.size κ) C.h C.nx (w1.alloc obj) := by
        refine ⟨S1.below.alloc S1.size obj, by have := S1.size; show B ≤ (w1.heap.push obj).size; simp; omega, S1.heap.new g4 g3 obj h4, fun j b hj => ?_, S1.top⟩
        by_cases hji : j = ID i
        · rw [hji]; exact g5
        · exact S1.fresh j b (by simpa [Cx.add, hji] using hj)
      unfold Oper.wp
      rw [h1]
      refine hK _ _ _ (Cx.le_add _ _ g4) (A.list F hD hL ho hne hr (Cx.le_add _ _ g4) S' ?_ (by rw [g2]; exact h5) (fun id h => ?_))
      · exact ⟨fun j hj => by have := A.ext.ρ j hj; simp [Cx.add, show j ≠ ID i by omega, this], fun j hj => by have := A.ext.κ j hj; simp [Cx.add, show j ≠ ID i by omega, this]⟩
      · by_cases hji : id = ID i
        · exact .inr ⟨hji, hk, hw⟩
        · exact .inl (by simp [Cx.add, hji, h])

def upd {α : Type} (f : Nat → α) (i : Nat) (x : α) (j : Nat) : α := if j = i then x else f j
theorem upd_same {α : Type} (f : Nat → α) (i : Nat) (x : α) : upd f i x i = x := by simp [upd]
theorem upd_ne {α : Type} (f : Nat → α) {i j : Nat} (x : α) (h : j ≠ i) : upd f i x j = f j := by simp [upd, h]

theorem putT_ok {nt : Nat} {tm tm' : T AV} {dst : Option Nat} {v : AV} (h : putT nt tm dst v = some tm') : (∀ d, dst = some d → tm'.get d = some v ∧ d < nt) ∧ (∀ t, dst ≠ some t → tm'.get t = tm.get t) := by
  unfold putT at h
  split at h
  · cases h
    exact ⟨fun d h => (by cases h), fun t _ => rfl⟩
  · rename_i d
    split at h
    · rename_i hd
      cases h
      rw [Nat.blt_eq] at hd
      refine ⟨fun d' h => ?_, fun t ht => ?_⟩
      · cases h
        exact ⟨by rw [T.get_put, if_pos rfl], hd⟩
      · rw [T.get_put, if_neg]
        intro e
        exact ht (by rw [e])
    · cases h

include F in
/-- an operation without effects is done abstractly -/
theorem AI.grow (A : AI E w0 B ops bef c st a0 es V TM ID cx C listed a w) {i : Nat} {o : Oper} {b : Nat} (ho : ops[i]? = some o) (hne : isEff E o = false) (hD : ¬ C.done.testBit i = true) (hb : nth bef i = some b) (hin : within b C.done = true)
    {C' : Dr} (he : drOne E st.nt ops.toList i o C = some C') : ∃ V' TM' ID', AI E w0 B ops bef c st a0 es V' TM' ID' cx C' listed a w := by
  have hL : ¬ Ls listed i := fun h => hD (A.sub i h)
  have hi : i < ops.size := by
    rcases Nat.lt_or_ge i ops.size with h | h
    · exact h
    · rw [Array.getElem?_eq_none h] at ho; cases ho
  -- what the step says
  have step : ∃ v tm', putT st.nt C.tm o.dst v = some tm' ∧ C'.tm = tm' ∧ C'.done = Nat.lor C.done (2 ^ i) ∧ C.nx ≤ C'.nx ∧ (∀ j x, C.h.get j = some x → C'.h.get j = some x) ∧ (∀ j, j < C.nx → C'.h.get j = C.h.get j) ∧
      (∀ x, x ∈ C.pend → x ∈ C'.pend) ∧ Fact E ops st cx C' v C.tm C.nx i o ∧ SR w0 B cx C'.h C'.nx w := by
    unfold drOne at he
    split at he
    · cases he
    · rename_i hw
      cases hp : putT st.nt C.tm o.dst (.tup []) with
      | none => rw [hp] at he; cases he
      | some tm' =>
        rw [hp] at he
        cases he
        exact ⟨_, tm', hp, rfl, rfl, Nat.le_refl _, fun j x h => h, fun j _ => rfl, fun x h => h, .inl ⟨hw, rfl⟩, A.mem⟩
    · rename_i hw
      split at he
      · rename_i hk
        split at he
        · rename_i v hv
          cases hp : putT st.nt C.tm o.dst v with
          | none => rw [hp] at he; cases he
          | some tm' =>
            rw [hp] at he
            cases he
            exact ⟨v, tm', hp, rfl, rfl, Nat.le_refl _, fun j x h => h, fun j _ => rfl, fun x h => h, .inr ⟨hw, .inl ⟨hk, hv⟩⟩, A.mem⟩
        · cases he
      · rename_i hk
        split at he
        · rename_i v hv
          cases hp : putT st.nt C.tm o.dst v with
          | none => rw [hp] at he; cases he
          | some tm' =>
            rw [hp] at he
            cases he
            exact ⟨v, tm', hp, rfl, rfl, Nat.le_refl _, fun j x h => h, fun j _ => rfl, fun x h => List.mem_cons_of_mem _ h, .inr ⟨hw, .inr (.inl ⟨hk, hv, List.mem_cons_self ..⟩)⟩, A.mem⟩
        · cases he
      · rename_i hk
        split at he
        · rename_i blk f hn
          cases hp : putT st.nt C.tm o.dst (f C.nx) with
          | none => rw [hp] at he; cases he
          | some tm' =>
            rw [hp] at he
            cases he
            refine ⟨f C.nx, tm', hp, rfl, rfl, Nat.le_succ _, fun j x h => ?_, fun j hj => ?_, fun x h => h, .inr ⟨hw, .inr (.inr ⟨hk, blk, f, hn, rfl, ?_, A.mem.unused, Nat.lt_succ_self _, A.next⟩)⟩, ?_⟩
            · rw [T.get_put, if_neg (by have := A.mem.top j x h; omega)]; exact h
            · rw [T.get_put, if_neg (by omega)]
            · rw [T.get_put, if_pos rfl]
            · exact ⟨A.mem.below, A.mem.size, A.mem.heap.put_free A.mem.unused _, fun j b hj => Nat.lt_succ_of_lt (A.mem.fresh j b hj), T.top_put (fun j x hj => Nat.lt_succ_of_lt (A.mem.top j x hj)) (Nat.lt_succ_self _)⟩
        · cases he
      · cases he
  obtain ⟨v, tm', hp, htm, hdone, hnx, hext, hlow, hpend, hfact, hmem⟩ := step
  obtain ⟨p1, p2⟩ := putT_ok hp
  have dn : ∀ j, C'.done.testBit j = true ↔ C.done.testBit j = true ∨ j = i := fun j => by
    rw [hdone, testBit_add]
    simp only [Bool.or_eq_true, decide_eq_true_eq]
    exact or_congr Iff.rfl eq_comm
  have ne : ∀ j, C.done.testBit j = true → j ≠ i := fun j h e => hD (e ▸ h)
  have Vn : ∀ j, C.done.testBit j = true → upd V i v j = V j := fun j h => upd_ne V v (ne j h)
  have TMn : ∀ j, C.done.testBit j = true → upd TM i C.tm j = TM j := fun j h => upd_ne TM C.tm (ne j h)
  have IDn : ∀ j, C.done.testBit j = true → upd ID i C.nx j = ID j := fun j h => upd_ne ID C.nx (ne j h)
  refine ⟨upd V i v, upd TM i C.tm, upd ID i C.nx,
    { size := A.size, sub := fun j hj => (dn j).2 (.inl (A.sub j hj)), down := A.down, doneLt := fun j hj => ?_, doneDown := fun j k hj hb' => ?_, effDone := fun j oj h1 h2 h3 => ?_, effAll := fun j oj h1 h2 => ?_,
      k1 := fun j oj d h1 h2 h3 => ?_, k2 := fun t ht => ?_, k5 := fun j oj h1 h2 h3 t ht x hx => ?_, fact := fun j oj h1 h2 h3 => ?_, ids := fun j k oj ok h1 h2 h3 h4 h5 h6 h7 h8 h9 h10 h11 => ?_,
      t1 := fun j oj d h1 h2 h3 => ?_, t2 := A.t2, tsz := A.tsz, defers := A.defers, mem := hmem, gl := A.gl, ext := A.ext, next := Nat.le_trans A.next hnx, still := fun j h1 h2 => ?_ }⟩
  · rcases (dn j).1 hj with h | rfl
    · exact A.doneLt j h
    · exact hi
  · refine (dn k).2 (.inl ?_)
    rcases (dn j).1 hj with h | rfl
    · exact A.doneDown j k h hb'
    · obtain ⟨b', h1, h2⟩ := hb'
      rw [hb] at h1
      cases h1
      exact within_ok hin k h2
  · rcases (dn j).1 h1 with h | rfl
    · exact A.effDone j oj h h2 h3
    · rw [ho] at h2
      cases h2
      rw [hne] at h3
      cases h3
  · rcases A.effAll j oj h1 h2 with h | h
    · exact .inl ((dn j).2 (.inl h))
    · exact .inr h
  · rw [htm]
    rcases (dn j).1 h1 with h | rfl
    · obtain ⟨g1, g2⟩ := A.k1 j oj d h h2 h3
      refine ⟨?_, g2⟩
      rw [p2 d (fun e => ne j h (F.dst j i oj o d h2 ho h3 e)), g1]
      exact congrArg some (Vn j h).symm
    · rw [ho] at h2
      cases h2
      obtain ⟨g1, g2⟩ := p1 d h3
      exact ⟨by rw [g1, upd_same], g2⟩
  · rw [htm, p2 t (fun e => ht i o ((dn i).2 (.inr rfl)) ho e)]
    exact A.k2 t (fun j oj h1 h2 => ht j oj ((dn j).2 (.inl h1)) h2)
  · rcases (dn j).1 h1 with h | rfl
    · rw [TMn j h] at hx
      rcases A.k5 j oj h h2 h3 t ht x hx with ⟨k, ok, g1, g2, g3, g4⟩ | g
      · exact .inl ⟨k, ok, g1, g2, g3, by rw [Vn k (A.doneDown j k h g1)]; exact g4⟩
      · exact .inr g
    · rw [upd_same] at hx
      by_cases hw : ∃ k ok, C.done.testBit k = true ∧ ops[k]? = some ok ∧ ok.dst = some t
      · obtain ⟨k, ok, hk, hok, hd⟩ := hw
        have hvk := (A.k1 k ok t hk hok hd).1
        rw [hx] at hvk
        cases hvk
        rcases F.tmp j oj h3 t ht k ok hok hd with rfl | hb' | hb'
        · exact absurd hk hD
        · exact .inl ⟨k, ok, hb', hok, hd, by rw [Vn k hk]⟩
        · exact absurd (A.doneDown k j hk hb') hD
      · refine .inr ⟨fun k ok hok hd => ?_, ?_⟩
        · rcases F.tmp j oj h3 t ht k ok hok hd with h | hb' | hb'
          · exact .inl h
          · obtain ⟨b', h1', h2'⟩ := hb'
            rw [hb] at h1'
            cases h1'
            exact absurd ⟨k, ok, within_ok hin k h2', hok, hd⟩ hw
          · exact .inr hb'
        · rw [← A.k2 t (fun k ok g1 g2 g3 => hw ⟨k, ok, g1, g2, g3⟩)]
          exact hx
  · rcases (dn j).1 h1 with h | rfl
    · have hf := A.fact j oj h h2 h3
      rw [Vn j h, TMn j h, IDn j h]
      unfold Fact at hf ⊢
      rcases hf with hf | ⟨hw, hf | ⟨hk, hf, hpd⟩ | ⟨hk, blk, f, g1, g2, g3, g4, g5, g6⟩⟩
      · exact .inl hf
      · exact .inr ⟨hw, .inl hf⟩
      · exact .inr ⟨hw, .inr (.inl ⟨hk, evPure_mono hext hk hf, hpend _ hpd⟩)⟩
      · exact .inr ⟨hw, .inr (.inr ⟨hk, blk, f, g1, g2, hext _ _ g3, g4, Nat.lt_of_lt_of_le g5 hnx, g6⟩)⟩
    · rw [ho] at h3
      cases h3
      rw [upd_same, upd_same, upd_same]
      exact hfact
  · -- numbers are apart
    have low : ∀ (k : Nat) (ok : Oper), C.done.testBit k = true → ¬ Ls listed k → ops[k]? = some ok → kindOf E ok = .new → wantedBy (TM k).get ops.toList ok = some true → ID k < C.nx := fun k ok g1 g2 g3 g4 g5 => by
      have hf := A.fact k ok g1 g2 g3
      unfold Fact at hf
      rcases hf with ⟨hf, _⟩ | ⟨_, ⟨hk, _⟩ | ⟨hk, _⟩ | ⟨_, _, _, _, _, _, _, g, _⟩⟩
      · rw [g5] at hf; cases hf
      · rw [g4] at hk; cases hk
      · rw [g4] at hk; cases hk
      · exact g
    rcases (dn j).1 h1 with h | rfl
    · rcases (dn k).1 h2 with h' | rfl
      · rw [TMn j h] at h9
        rw [TMn k h'] at h10
        rw [IDn j h, IDn k h'] at h11
        exact A.ids j k oj ok h h' h3 h4 h5 h6 h7 h8 h9 h10 h11
      · rw [TMn j h] at h9
        rw [IDn j h, upd_same] at h11
        have := low j oj h h3 h5 h7 h9
        omega
    · rcases (dn k).1 h2 with h' | rfl
      · rw [TMn k h'] at h10
        rw [IDn k h', upd_same] at h11
        have := low k ok h' h4 h6 h8 h10
        omega
      · rfl
  · have hj := A.sub j h1
    obtain ⟨u, g1, g2⟩ := A.t1 j oj d h1 h2 h3
    exact ⟨u, g1, by rw [Vn j hj]; exact g2⟩
  · rw [hlow j (Nat.lt_of_lt_of_le h1 A.next)]
    exact A.still j h1 h2

include F in
theorem AI.stage : ∀ (l : List Oper) (bs : List Nat) (k : Nat) (V : Nat → AV) (TM : Nat → T AV) (ID : Nat → Nat) (C C' : Dr), ops.toList.drop k = l → bef.drop k = bs → AI E w0 B ops bef c st a0 es V TM ID cx C listed a w →
    drStage E st.nt ops.toList l bs k C = some C' → ∃ V' TM' ID', AI E w0 B ops bef c st a0 es V' TM' ID' cx C' listed a w
  | [], bs, k, V, TM, ID, C, C', _, _, A, h => by
    simp only [drStage, Option.some.injEq] at h
    subst h
    exact ⟨V, TM, ID, A⟩
  | o :: l, [], k, V, TM, ID, C, C', _, _, A, h => by simp [drStage] at h
  | o :: l, b :: bs, k, V, TM, ID, C, C', hl, hbs, A, h => by
    have ho : ops[k]? = some o := by
      have := congrArg (fun l => l[0]?) hl
      simpa using this
    have hb : nth bef k = some b := by
      have := congrArg (fun l => l[0]?) hbs
      rw [nth_eq]
      simpa using this
    have hl' : ops.toList.drop (k + 1) = l := by
      have := congrArg List.tail hl
      simpa [List.tail_drop] using this
    have hbs' : bef.drop (k + 1) = bs := by
      have := congrArg List.tail hbs
      simpa [List.tail_drop] using this
    simp only [drStage] at h
    split at h
    · exact AI.stage l bs (k + 1) V TM ID C C' hl' hbs' A h
    · rename_i hc
      simp only [Bool.or_eq_false_iff, Bool.not_eq_false'] at hc
      obtain ⟨⟨h1, h2⟩, h3⟩ := hc
      rw [bit_eq] at h2
      split at h
      · rename_i C1 he
        obtain ⟨V1, TM1, ID1, A1⟩ := A.grow F ho h1 (by rw [h2]; simp) hb h3 he
        exact AI.stage l bs (k + 1) V1 TM1 ID1 C1 C' hl' hbs' A1 h
      · cases h

end
end Ev
end Go.Proofs.YtadkimnpeachpaaGreatDoor
/- The evaluator: EvDraw5P. -/
set_option linter.unusedVariables false
set_option linter.unusedSimpArgs false
namespace Go.Proofs.YtadkimnpeachpaaGreatDoor
namespace Ev
open Go.RowKit

mutual
theorem beq_eq : ∀ (a b : AV), AV.beq a b = true → a = b
  | a, b, h => by
    cases a <;> cases b <;> simp only [AV.beq] at h <;> try (cases h; done)
    all_goals first
      | rfl
      | (rename_i x y; cases x <;> cases y <;> first | rfl | cases h)
      | (simp only [Bool.and_eq_true] at h; rw [kindEq_eq h.1]; have h2 := h.2; rw [eqI_eq] at h2; simp at h2; rw [h2])
      | (rw [eqL_eq] at h; simp at h; rw [h])
      | (simp only [Bool.and_eq_true] at h; obtain ⟨⟨⟨h1, h2⟩, h3⟩, h4⟩ := h; rw [Nat.eq_of_beq_eq_true h1, Nat.eq_of_beq_eq_true h2, Nat.eq_of_beq_eq_true h3, Nat.eq_of_beq_eq_true h4])
      | (simp only [Bool.and_eq_true] at h; obtain ⟨⟨h1, h2⟩, h3⟩ := h; rw [Nat.eq_of_beq_eq_true h1, beqL_eq _ _ h2, beqL_eq _ _ h3])
      | (simp only [Bool.and_eq_true] at h; obtain ⟨h1, h2⟩ := h; rw [Nat.eq_of_beq_eq_true h1, Nat.eq_of_beq_eq_true h2])
      | (simp only [Bool.and_eq_true] at h; obtain ⟨h1, h2⟩ := h; rw [Nat.eq_of_beq_eq_true h1, beq_eq _ _ h2])
      | (rw [Nat.eq_of_beq_eq_true h])
      | (rw [beqL_eq _ _ h])
theorem beqL_eq : ∀ (a b : List AV), beqL a b = true → a = b
  | [], [], _ => rfl
  | [], _ :: _, h => by cases h
  | _ :: _, [], h => by cases h
  | a :: x, b :: y, h => by
    simp only [beqL, Bool.and_eq_true] at h
    rw [beq_eq a b h.1, beqL_eq x y h.2]
end

theorem drPend_ok {E : Env} {b : Nat} {h : T ABk} : ∀ (l l' : List (Nat × Oper × T AV × AV)), drPend E b h l = some l' → ∀ i o tm v, (i, o, tm, v) ∈ l → ¬ b.testBit i = true → evPure E (evOperand E tm) h o = some v ∧ (i, o, tm, v) ∈ l'
  | [], l', _, i, o, tm, v, hm, _ => by cases hm
  | (i0, o0, tm0, v0) :: l, l', he, i, o, tm, v, hm, hb => by
    simp only [drPend] at he
    split at he
    · rename_i hbit
      rw [bit_eq] at hbit
      cases hm with
      | head => exact absurd hbit hb
      | tail _ hm => exact drPend_ok l l' he i o tm v hm hb
    · split at he
      · rename_i v' hv
        split at he
        · rename_i hq
          cases hr : drPend E b h l with
          | none => rw [hr] at he; cases he
          | some l2 =>
            rw [hr] at he
            cases he
            cases hm with
            | head => exact ⟨by rw [hv, beq_eq _ _ hq], by simp⟩
            | tail _ hm =>
              obtain ⟨g1, g2⟩ := drPend_ok l l2 hr i o tm v hm hb
              exact ⟨g1, List.mem_cons_of_mem _ g2⟩
        · cases he
      · cases he

theorem within_of {b s : Nat} (h : ∀ j, b.testBit j = true → s.testBit j = true) : within b s = true := by
  have : b &&& s = b := by
    apply Nat.eq_of_testBit_eq
    intro j
    rw [Nat.testBit_and]
    cases hb : b.testBit j with
    | false => rfl
    | true => rw [h j hb]; rfl
  unfold within
  show Nat.beq (b &&& s) b = true
  rw [this]
  exact Nat.beq_refl b

theorem drFull_ok {E : Env} {done : Nat} : ∀ (l : List Oper) (bs : List Nat) (k : Nat), drFull E done l bs k = true → ∀ (i : Nat) (o : Oper) (b : Nat), l[i]? = some o → bs[i]? = some b → isEff E o = false → within b done = true → done.testBit (k + i) = true
  | [], bs, k, _, i, o, b, h, _, _, _ => by simp at h
  | x :: l, [], k, h, i, o, b, _, hb, _, _ => by simp at hb
  | x :: l, y :: bs, k, h, i, o, b, ho, hb, he, hw => by
    simp only [drFull] at h
    split at h
    · rename_i hc
      cases i with
      | zero =>
        simp at ho hb
        subst ho
        subst hb
        rw [he, hw] at hc
        simp [bit_eq] at hc
        simpa using hc
      | succ i =>
        simp at ho hb
        have := drFull_ok l bs (k + 1) h i o b ho hb he hw
        rw [show k + (i + 1) = k + 1 + i by omega]
        exact this
    · cases h

theorem behind_ok {bef : List Nat} {e : Nat} : ∀ (l : List Nat), behind bef e l = true → ∀ i ∈ l, bb bef i e
  | [], _, i, h => by cases h
  | x :: l, h, i, hi => by
    simp only [behind] at h
    split at h
    · rename_i b hb
      split at h
      · rename_i hbit
        rw [bit_eq] at hbit
        cases hi with
        | head => exact ⟨b, hb, hbit⟩
        | tail _ hi => exact behind_ok l h i hi
      · cases h
    · cases h

section
variable {P : Program} {E : Env} (HE : EnvOk P E) (HF : FnsOk P E) {w0 : World} {B : Nat} {ops : Array Oper} {bef : List Nat} (F : SF E ops bef) {c : Cx} {st : St} {a0 : Act} {e : Nat} {es : List Nat}
  {V : Nat → AV} {TM : Nat → T AV} {ID : Nat → Nat} {cx : Cx} {C : Dr} {listed : Array Bool} {a : Act} {w : World}

include F in
/-- an operation with an effect has come up -/
theorem AI.after (A : AI E w0 B ops bef c st a0 (e :: es) V TM ID cx C listed a w) {o : Oper} {b : Nat} (ho : ops[e]? = some o) (hne : isEff E o = true) (hD : ¬ C.done.testBit e = true) (hb : nth bef e = some b) (hin : within b C.done = true)
    (hr : ∀ e' ∈ o.after.toList, Region.binds .any e' = true → Ls listed e'.on) {cx' : Cx} {w' : World} {val : Value} {v : AV} {tm' : T AV} {h' : T ABk} {nx' : Nat} {l : List (Nat × Oper × T AV × AV)}
    (hx : cx.ext C.nx cx') (hS : SR w0 B cx' h' nx' w') (hv : VR cx' v val) (hn : C.nx ≤ nx') (hu : ∀ i, i < C.nx → cx.ρ i = none → h'.get i = C.h.get i)
    (hp : putT st.nt C.tm o.dst v = some tm') (hl : drPend E b h' C.pend = some l) :
    AI E w0 B ops bef c st a0 es (upd V e v) TM ID cx' ⟨tm', h', nx', Nat.lor C.done (2 ^ e), l⟩ (listed.setIfInBounds e true) (a.put o.dst val) w' := by
  have hL : ¬ Ls listed e := fun h => hD (A.sub e h)
  have hi : e < ops.size := by
    rcases Nat.lt_or_ge e ops.size with h | h
    · exact h
    · rw [Array.getElem?_eq_none h] at ho; cases ho
  have hil : e < listed.size := by rw [A.size]; exact hi
  have key : ∀ j, Ls (listed.setIfInBounds e true) j ↔ j = e ∨ Ls listed j := fun j => ls_set hil
  have nkey : ∀ j, ¬ Ls (listed.setIfInBounds e true) j → j ≠ e ∧ ¬ Ls listed j := fun j h => ⟨fun e' => h ((key j).2 (.inl e')), fun e' => h ((key j).2 (.inr e'))⟩
  have dn : ∀ j, (Nat.lor C.done (2 ^ e)).testBit j = true ↔ C.done.testBit j = true ∨ j = e := fun j => by
    rw [testBit_add]
    simp only [Bool.or_eq_true, decide_eq_true_eq]
    exact or_congr Iff.rfl eq_comm
  have ne : ∀ j, C.done.testBit j = true → j ≠ e := fun j h e' => hD (e' ▸ h)
  have hc : cx.le cx' := hx.le A.mem.fresh
  obtain ⟨p1, p2⟩ := putT_ok hp
  have tmps : ∀ t u, (o.dst ≠ some t) → a.tmps[t]? = some u → (a.put o.dst val).tmps[t]? = some u := fun t u hd hu' => by
    cases hdst : o.dst with
    | none => exact hu'
    | some d =>
      simp only [Act.put]
      rw [Array.getElem?_setIfInBounds_ne (fun e' => hd (by rw [hdst, e']))]
      exact hu'
  have undone : ∀ j, (Nat.lor C.done (2 ^ e)).testBit j = true → ¬ Ls (listed.setIfInBounds e true) j → C.done.testBit j = true ∧ ¬ Ls listed j := fun j h1 h2 => by
    obtain ⟨g1, g2⟩ := nkey j h2
    rcases (dn j).1 h1 with h | h
    · exact ⟨h, g2⟩
    · exact absurd h g1
  refine
    { size := by simp [A.size], sub := fun j hj => (dn j).2 ?_, down := fun j oj hj hoj e' he' hb' => ?_, doneLt := fun j hj => ?_, doneDown := fun j k hj hb' => ?_, effDone := fun j oj h1 h2 h3 => ?_, effAll := fun j oj h1 h2 => ?_,
      k1 := fun j oj d h1 h2 h3 => ?_, k2 := fun t ht => ?_, k5 := fun j oj h1 h2 h3 t ht x hx' => ?_, fact := fun j oj h1 h2 h3 => ?_, ids := fun j k oj ok h1 h2 h3 h4 => A.ids j k oj ok (undone j h1 h3).1 (undone k h2 h4).1 (undone j h1 h3).2 (undone k h2 h4).2,
      t1 := fun j oj d h1 h2 h3 => ?_, t2 := fun t x hn' hs => ?_, tsz := ?_, defers := ?_, mem := hS, gl := A.gl.mono hc, ext := A.ext.trans A.next hx, next := Nat.le_trans A.next hn, still := fun j h1 h2 => ?_ }
  · rcases (key j).1 hj with h | h
    · exact .inr h
    · exact .inl (A.sub j h)
  · rcases (key j).1 hj with rfl | h
    · rw [ho] at hoj
      cases hoj
      exact (key e'.on).2 (.inr (hr e' he' hb'))
    · exact (key e'.on).2 (.inr (A.down j oj h hoj e' he' hb'))
  · rcases (dn j).1 hj with h | rfl
    · exact A.doneLt j h
    · exact hi
  · refine (dn k).2 (.inl ?_)
    rcases (dn j).1 hj with h | rfl
    · exact A.doneDown j k h hb'
    · obtain ⟨b', h1, h2⟩ := hb'
      rw [hb] at h1
      cases h1
      exact within_ok hin k h2
  · rcases (dn j).1 h1 with h | rfl
    · exact (key j).2 (.inr (A.effDone j oj h h2 h3))
    · exact (key j).2 (.inl rfl)
  · rcases A.effAll j oj h1 h2 with h | h
    · exact .inl ((dn j).2 (.inl h))
    · cases h with
      | head => exact .inl ((dn e).2 (.inr rfl))
      | tail _ h => exact .inr h
  · rcases (dn j).1 h1 with h | rfl
    · obtain ⟨g1, g2⟩ := A.k1 j oj d h h2 h3
      exact ⟨by rw [p2 d (fun e' => ne j h (F.dst j e oj o d h2 ho h3 e')), g1, upd_ne V v (ne j h)], g2⟩
    · rw [ho] at h2
      cases h2
      obtain ⟨g1, g2⟩ := p1 d h3
      exact ⟨by rw [g1, upd_same], g2⟩
  · show tm'.get t = _
    rw [p2 t (fun e' => ht e o ((dn e).2 (.inr rfl)) ho e')]
    exact A.k2 t (fun j oj h1 h2 => ht j oj ((dn j).2 (.inl h1)) h2)
  · obtain ⟨g1, g2⟩ := undone j h1 h2
    rcases A.k5 j oj g1 g2 h3 t ht x hx' with ⟨k, ok, q1, q2, q3, q4⟩ | g
    · exact .inl ⟨k, ok, q1, q2, q3, by rw [upd_ne V v (ne k (A.doneDown j k g1 q1))]; exact q4⟩
    · exact .inr g
  · obtain ⟨g1, g2⟩ := undone j h1 h2
    have hf := A.fact j oj g1 g2 h3
    rw [upd_ne V v (ne j g1)]
    unfold Fact at hf ⊢
    rcases hf with hf | ⟨hw, hf | ⟨hk, hf, hpd⟩ | ⟨hk, blk, f, q1, q2, q3, q4, q5, q6⟩⟩
    · exact .inl hf
    · exact .inr ⟨hw, .inl hf⟩
    · have hnb : ¬ b.testBit j = true := fun h => g2 (A.readyAhead F ho hr ⟨b, hb, h⟩)
      obtain ⟨q1, q2⟩ := drPend_ok _ _ hl j oj _ _ hpd hnb
      exact .inr ⟨hw, .inr (.inl ⟨hk, q1, q2⟩)⟩
    · exact .inr ⟨hw, .inr (.inr ⟨hk, blk, f, q1, q2, by show h'.get _ = _; rw [hu _ q5 q4]; exact q3, by rw [hx.ρ _ q5]; exact q4, Nat.lt_of_lt_of_le q5 hn, q6⟩)⟩
  · rcases (key j).1 h1 with rfl | h
    · rw [ho] at h2
      cases h2
      have hlt := (p1 d h3).2
      rw [upd_same]
      refine ⟨val, ?_, hv⟩
      rw [h3]
      simp only [Act.put]
      rw [Array.getElem?_setIfInBounds_self_of_lt (Nat.lt_of_lt_of_le hlt A.tsz)]
    · obtain ⟨u, g1, g2⟩ := A.t1 j oj d h h2 h3
      have hje := ne j (A.sub j h)
      rw [upd_ne V v hje]
      exact ⟨u, tmps d u (fun e' => hje (F.dst j e oj o d h2 ho h3 e')) g1, g2.mono hc⟩
  · obtain ⟨u, g1, g2⟩ := A.t2 t x (fun j oj hj => hn' j oj ((key j).2 (.inr hj))) hs
    exact ⟨u, tmps t u (hn' e o ((key e).2 (.inl rfl)) ho) g1, g2.mono hc⟩
  · cases o.dst <;> simp [Act.put, A.tsz]
  · cases o.dst <;> exact A.defers
  · show h'.get j = _
    rw [hu j (Nat.lt_of_lt_of_le h1 A.next) (by rw [A.ext.ρ j h1]; exact h2)]
    exact A.still j h1 h2

include HE HF F in
theorem AI.eff {rec_ : Rec} (HR : RecOk P E w0 B rec_) (A : AI E w0 B ops bef c st a0 (e :: es) V TM ID cx C listed a w) {o : Oper} {b : Nat} (ho : ops[e]? = some o) (hne : isEff E o = true) (hD : ¬ C.done.testBit e = true) (hb : nth bef e = some b)
    (hin : within b C.done = true) (hr : ∀ e' ∈ o.after.toList, Region.binds .any e' = true → Ls listed e'.on) {C1 : Dr} {l : List (Nat × Oper × T AV × AV)} (he : drEff E rec_ st.nt ops.toList e o C = some C1) (hl : drPend E b C1.h C1.pend = some l)
    {K : Act → World → Prop} {Q : Exit → Act → World → Prop} (hK : ∀ v cx' a' w', cx.le cx' → AI E w0 B ops bef c st a0 es (upd V e v) TM ID cx' { C1 with pend := l } (listed.setIfInBounds e true) a' w' → K a' w') : wpOp P ops Q e K a w := by
  have hsee := A.seesEff F hD ho hr
  have hops := hsee.opsR A.gl
  unfold wpOp
  rw [ho]
  simp only
  unfold drEff at he
  split at he
  · cases he
  · rename_i hw
    rw [hsee.wanted hw]
    simp only [Bool.false_eq_true, if_false]
    cases hp : putT st.nt C.tm o.dst (.tup []) with
    | none => rw [hp] at he; cases he
    | some tm' =>
      rw [hp] at he
      cases he
      exact hK _ _ _ _ (Cx.le.refl _) (A.after F ho hne hD hb hin hr (Cx.ext.refl _ _) A.mem (LR.tup (arr := #[]) (LR.nil cx)) (Nat.le_refl _) (fun _ _ _ => rfl) hp hl)
  · rename_i hw
    rw [hsee.wanted hw]
    simp only [if_true]
    refine .inl ?_
    split at he
    · rename_i v h' nx' hmid
      cases hp : putT st.nt C.tm o.dst v with
      | none => rw [hp] at he; cases he
      | some tm' =>
        rw [hp] at he
        cases he
        split at hmid
        · obtain ⟨c', w', val, h1, h2, h3, h4, h5, h6⟩ := evEff_ok HE A.mem o hops hmid
          unfold Oper.wp
          rcases h1 with h1 | ⟨h1, rfl⟩ <;> rw [h1] <;> exact hK _ _ _ _ (h2.le A.mem.fresh) (A.after F ho hne hD hb hin hr h2 h3 h4 h5 h6 hp hl)
        · exact callOp_ok HE HF HR A.mem A.gl hops hmid fun val w' ⟨c', h2, h3, h4, h5, h6⟩ => hK _ _ _ _ (h2.le A.mem.fresh) (A.after F ho hne hD hb hin hr h2 h3 h4 h5 h6 hp hl)
        · cases hmid
    · cases he

end
end Ev
end Go.Proofs.YtadkimnpeachpaaGreatDoor
/- The evaluator: EvPairP. -/
set_option linter.unusedVariables false
set_option linter.unusedSimpArgs false
namespace Go.Proofs.YtadkimnpeachpaaGreatDoor
namespace Ev
open Go.RowKit

section
variable {E : Env}

theorem drOne_done {nt : Nat} {all : List Oper} {i : Nat} {o : Oper} {c c' : Dr} (h : drOne E nt all i o c = some c') : c'.done = Nat.lor c.done (2 ^ i) := by
  unfold drOne at h
  split at h
  · cases h
  · cases hp : putT nt c.tm o.dst (.tup []) with
    | none => rw [hp] at h; cases h
    | some tm => rw [hp] at h; cases h; rfl
  · split at h
    · split at h
      · rename_i v _
        cases hp : putT nt c.tm o.dst v with
        | none => rw [hp] at h; cases h
        | some tm => rw [hp] at h; cases h; rfl
      · cases h
    · split at h
      · rename_i v _
        cases hp : putT nt c.tm o.dst v with
        | none => rw [hp] at h; cases h
        | some tm => rw [hp] at h; cases h; rfl
      · cases h
    · split at h
      · rename_i b f _
        cases hp : putT nt c.tm o.dst (f c.nx) with
        | none => rw [hp] at h; cases h
        | some tm => rw [hp] at h; cases h; rfl
      · cases h
    · cases h

theorem drStage_mono {nt : Nat} {all : List Oper} : ∀ (l : List Oper) (bs : List Nat) (k : Nat) (c c' : Dr), drStage E nt all l bs k c = some c' → ∀ j, c.done.testBit j = true → c'.done.testBit j = true
  | [], _, _, c, c', h, j, hj => by simp only [drStage, Option.some.injEq] at h; subst h; exact hj
  | o :: l, [], _, c, c', h, j, hj => by simp [drStage] at h
  | o :: l, b :: bs, k, c, c', h, j, hj => by
    simp only [drStage] at h
    split at h
    · exact drStage_mono l bs (k + 1) c c' h j hj
    · split at h
      · rename_i c1 h1
        refine drStage_mono l bs (k + 1) c1 c' h j ?_
        rw [drOne_done h1, testBit_add, hj]
        rfl
      · cases h

theorem drStage_noop {nt : Nat} {all : List Oper} : ∀ (l : List Oper) (bs : List Nat) (k : Nat) (c c' : Dr), drStage E nt all l bs k c = some c' → c'.done = c.done → c' = c
  | [], _, _, c, c', h, _ => by simp only [drStage, Option.some.injEq] at h; exact h.symm
  | o :: l, [], _, c, c', h, _ => by simp [drStage] at h
  | o :: l, b :: bs, k, c, c', h, hd => by
    simp only [drStage] at h
    split at h
    · exact drStage_noop l bs (k + 1) c c' h hd
    · rename_i hc
      simp only [Bool.or_eq_false_iff] at hc
      have hk := hc.1.2
      rw [bit_eq] at hk
      split at h
      · rename_i c1 h1
        have := drStage_mono l bs (k + 1) c1 c' h k (by rw [drOne_done h1, testBit_add]; simp)
        rw [hd, hk] at this
        cases this
      · cases h

theorem drEffStage_ok {rec_ : Rec} {nt : Nat} {all : List Oper} {bef : List Nat} {e : Nat} {c c'' : Dr} (h : drEffStage E rec_ nt all bef e c = some c'') :
    ∃ b o C1 l, nth bef e = some b ∧ nth all e = some o ∧ within b c.done = true ∧ ¬ c.done.testBit e = true ∧ isEff E o = true ∧ drEff E rec_ nt all e o c = some C1 ∧ drPend E b C1.h C1.pend = some l ∧
      drStage E nt all all bef 0 { C1 with pend := l } = some c'' ∧ drFull E c''.done all bef 0 = true := by
  unfold drEffStage at h
  split at h
  · rename_i b o hb ho
    split at h
    · cases h
    · rename_i hc
      simp only [Bool.and_eq_true, Bool.not_eq_true'] at hc
      obtain ⟨⟨k1, k2⟩, k3⟩ := hc
      rw [bit_eq] at k2
      split at h
      · cases h
      · rename_i C1 h1
        split at h
        · cases h
        · rename_i l hl
          split at h
          · cases h
          · rename_i c2 h2
            split at h
            · cases h
            · rename_i hf
              cases h
              exact ⟨b, o, C1, l, hb, ho, k1, by rw [k2]; simp, k3, h1, hl, h2, hf⟩
  · cases h

/-- a write, block by block -/
def wrB (x : Option ABk) (o : Nat) (xs : List AV) : Option ABk :=
  match cellsOnly xs with
  | false => none
  | true => match x with
    | some (.cells e sz g false cs) => match over cs o xs with
      | some cs' => some (.cells e sz g false cs')
      | none => none
    | _ => none

theorem wr_wrB (h : T ABk) (b o : Nat) (xs : List AV) : wr h b o xs = (wrB (h.get b) o xs).map fun y => h.put (some y) b := by
  unfold wr wrB
  cases hc : cellsOnly xs with
  | false => rfl
  | true =>
    simp only
    cases hh : h.get b with
    | none => rfl
    | some x =>
      cases x with
      | cells e sz g ro cs =>
        cases ro with
        | true => rfl
        | false =>
          simp only
          cases over cs o xs <;> rfl
      | _ => rfl

/-- what a store does to the memory -/
def storeFn (E : Env) (tm : T AV) (all : List Oper) (o : Oper) (h : T ABk) (h' : T ABk) : Prop :=
  (wantedBy tm.get all o = some false ∧ h' = h) ∨ (wantedBy tm.get all o = some true ∧ ∃ t a x b off v y, o.op = .store t a x ∧ evOperand E tm a = some (.ptr b off) ∧ evOperand E tm x = some v ∧ wrB (h.get b) off v.cells = some y ∧ h' = h.put (some y) b)

theorem drEff_store {rec_ : Rec} {nt : Nat} {all : List Oper} {e : Nat} {o : Oper} {c C1 : Dr} {t : Nat} {a x : Operand} (hop : o.op = .store t a x) (hd : o.dst = none) (h : drEff E rec_ nt all e o c = some C1) :
    C1.tm = c.tm ∧ C1.nx = c.nx ∧ storeFn E c.tm all o c.h C1.h := by
  have hk : kindOf E o = .eff := by unfold kindOf; rw [hop]
  unfold drEff at h
  rw [hd] at h
  split at h
  · cases h
  · rename_i hw
    simp only [putT, Option.map_some, Option.some.injEq] at h
    subst h
    exact ⟨rfl, rfl, .inl ⟨hw, rfl⟩⟩
  · rename_i hw
    rw [hk] at h
    simp only at h
    split at h
    · rename_i v h' nx' hev
      simp only [putT, Option.map_some, Option.some.injEq] at h
      subst h
      unfold evEff at hev
      rw [hop] at hev
      simp only at hev
      split at hev
      · rename_i b off vx ti h1 h2 h3
        split at hev
        · rw [wr_wrB] at hev
          cases hy : wrB (c.h.get b) off vx.cells with
          | none => rw [hy] at hev; cases hev
          | some y =>
            rw [hy] at hev
            cases hev
            exact ⟨rfl, rfl, .inr ⟨hw, t, a, x, b, off, vx, y, hop, h1, h2, hy, rfl⟩⟩
        · cases hev
      · cases hev
    · cases h

/-- two stores into two blocks -/
theorem stores_commute {tm : T AV} {all : List Oper} {o1 o2 : Oper} (hap : storesApart E tm o1 o2 = true) {h h1 h2 h12 h21 : T ABk} (a1 : storeFn E tm all o1 h h1) (a2 : storeFn E tm all o2 h h2) (a12 : storeFn E tm all o2 h1 h12) (a21 : storeFn E tm all o1 h2 h21) :
    ∀ i, h12.get i = h21.get i := by
  rcases a1 with ⟨w1, rfl⟩ | ⟨w1, t1, p1, x1, b1, f1, v1, y1, q1, q2, q3, q4, rfl⟩
  · rcases a21 with ⟨_, rfl⟩ | ⟨w1', _⟩
    · rcases a2 with ⟨w2, rfl⟩ | ⟨w2, t2, p2, x2, b2, f2, v2, y2, r1, r2, r3, r4, rfl⟩
      · rcases a12 with ⟨_, rfl⟩ | ⟨w2', _⟩
        · exact fun i => rfl
        · rw [w2] at w2'; cases w2'
      · rcases a12 with ⟨w2', _⟩ | ⟨_, t2', p2', x2', b2', f2', v2', y2', s1, s2, s3, s4, rfl⟩
        · rw [w2] at w2'; cases w2'
        · rw [r1] at s1; cases s1; rw [r2] at s2; cases s2; rw [r3] at s3; cases s3; rw [r4] at s4; cases s4
          exact fun i => rfl
    · rw [w1] at w1'; cases w1'
  · rcases a21 with ⟨w1', _⟩ | ⟨_, t1', p1', x1', b1', f1', v1', y1', q1', q2', q3', q4', rfl⟩
    · rw [w1] at w1'; cases w1'
    · rw [q1] at q1'; cases q1'; rw [q2] at q2'; cases q2'; rw [q3] at q3'; cases q3'
      rcases a2 with ⟨w2, rfl⟩ | ⟨w2, t2, p2, x2, b2, f2, v2, y2, r1, r2, r3, r4, rfl⟩
      · rcases a12 with ⟨_, rfl⟩ | ⟨w2', _⟩
        · rw [q4] at q4'; cases q4'
          exact fun i => rfl
        · rw [w2] at w2'; cases w2'
      · rcases a12 with ⟨w2', _⟩ | ⟨_, t2', p2', x2', b2', f2', v2', y2', s1, s2, s3, s4, rfl⟩
        · rw [w2] at w2'; cases w2'
        · rw [r1] at s1; cases s1; rw [r2] at s2; cases s2; rw [r3] at s3; cases s3
          have hne : b1 ≠ b2 := by
            unfold storesApart at hap
            rw [q1, r1] at hap
            split at hap
            · rename_i heq1 heq2 _ _
              cases heq1
              cases heq2
              rw [q2, r2] at hap
              simp only [Bool.not_eq_true'] at hap
              exact Nat.ne_of_beq_eq_false hap
            · cases hap
          rw [T.get_put, if_neg (Ne.symm hne), r4] at s4
          cases s4
          rw [T.get_put, if_neg hne, q4] at q4'
          cases q4'
          intro i
          simp only [T.get_put]
          by_cases e1 : i = b1
          · by_cases e2 : i = b2
            · exact absurd (e1.symm.trans e2) hne
            · simp [e1, hne]
          · by_cases e2 : i = b2
            · simp [e2, Ne.symm hne]
            · simp [e1, e2]

theorem storesApart_ops {tm : T AV} {o1 o2 : Oper} (h : storesApart E tm o1 o2 = true) : (∃ t a x, o1.op = .store t a x) ∧ o1.dst = none ∧ (∃ t a x, o2.op = .store t a x) ∧ o2.dst = none := by
  unfold storesApart at h
  split at h
  · rename_i h1 h2 h3 h4
    exact ⟨⟨_, _, _, h1⟩, h3, ⟨_, _, _, h2⟩, h4⟩
  · cases h

theorem drPair_ok {rec_ : Rec} {nt : Nat} {all : List Oper} {bef : List Nat} {e1 e2 : Nat} {c c12 : Dr} (h : drPair E rec_ nt all bef e1 e2 c = some c12) :
    ∃ c1 c2 c21, drEffStage E rec_ nt all bef e1 c = some c1 ∧ drEffStage E rec_ nt all bef e2 c = some c2 ∧ drEffStage E rec_ nt all bef e2 c1 = some c12 ∧ drEffStage E rec_ nt all bef e1 c2 = some c21 ∧ drDone all c12 = true ∧ drDone all c21 = true ∧
      (∀ t, c12.tm.get t = c21.tm.get t) ∧ (∀ i, c12.h.get i = c21.h.get i) ∧ c12.nx = c21.nx := by
  unfold drPair at h
  split at h
  · rename_i o1 o2 ho1 ho2
    split at h
    · cases h
    · rename_i hap
      simp only [Bool.and_eq_true] at hap
      have hap := hap.1
      split at h
      · rename_i c1 c2 hc1 hc2
        split at h
        · cases h
        · rename_i hd1
          simp only [Bool.and_eq_true] at hd1
          have d1 := Nat.eq_of_beq_eq_true hd1.1
          have d2 := Nat.eq_of_beq_eq_true hd1.2
          split at h
          · rename_i c12' c21 hc12 hc21
            split at h
            · rename_i hd2
              cases h
              simp only [Bool.and_eq_true] at hd2
              obtain ⟨⟨⟨e12, e21⟩, k1⟩, k2⟩ := hd2
              have e12 := Nat.eq_of_beq_eq_true e12
              have e21 := Nat.eq_of_beq_eq_true e21
              refine ⟨c1, c2, c21, hc1, hc2, hc12, hc21, k1, k2, ?_⟩
              -- each of the four is the effect alone
              have one : ∀ (e : Nat) (o : Oper) (x y : Dr), nth all e = some o → (∃ t a x, o.op = .store t a x) → o.dst = none → drEffStage E rec_ nt all bef e x = some y → y.done = Nat.lor x.done (2 ^ e) → y.tm = x.tm ∧ y.nx = x.nx ∧ storeFn E x.tm all o x.h y.h := by
                intro e o x y ho ⟨t, a, v, hop⟩ hdst hs hdn
                obtain ⟨b, o', C1, l, _, ho', _, _, _, g1, g2, g3, _⟩ := drEffStage_ok hs
                rw [ho] at ho'
                cases ho'
                obtain ⟨q1, q2, q3⟩ := drEff_store hop hdst g1
                have hC1 : C1.done = Nat.lor x.done (2 ^ e) := by
                  unfold drEff at g1
                  rw [hdst] at g1
                  split at g1
                  · cases g1
                  · simp only [putT, Option.map_some, Option.some.injEq] at g1; subst g1; rfl
                  · split at g1
                    · simp only [putT, Option.map_some, Option.some.injEq] at g1; subst g1; rfl
                    · cases g1
                have := drStage_noop _ _ _ _ _ g3 (by rw [hdn]; exact hC1.symm)
                rw [this]
                exact ⟨q1, q2, q3⟩
              obtain ⟨s1, s2, s3, s4⟩ := storesApart_ops hap
              obtain ⟨t1, n1, f1⟩ := one e1 o1 c c1 ho1 s1 s2 hc1 d1
              obtain ⟨t2, n2, f2⟩ := one e2 o2 c c2 ho2 s3 s4 hc2 d2
              obtain ⟨t12, n12, f12⟩ := one e2 o2 c1 c12 ho2 s3 s4 hc12 e12
              obtain ⟨t21, n21, f21⟩ := one e1 o1 c2 c21 ho1 s1 s2 hc21 e21
              rw [t1] at f12
              rw [t2] at f21
              exact ⟨fun t => by rw [t12, t1, t21, t2], stores_commute hap f1 f2 f12 f21, by rw [n12, n1, n21, n2]⟩
            · cases h
          · cases h
      · cases h
  · cases h

end
end Ev
end Go.Proofs.YtadkimnpeachpaaGreatDoor
