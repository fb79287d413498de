/- The evaluator: EvOpsP. -/
import Derived.Test.YtfmnoohkllmbmaaGreatDoorEvCodeP
set_option linter.unusedVariables false
set_option linter.unusedSimpArgs false
namespace Go.Proofs.YtfmnoohkllmbmaaGreatDoor
namespace Ev
open Go.RowKit

section
variable {P : Program} {E : Env} (HE : EnvOk P E) (HF : FnsOk P E) {w0 : World} {B : Nat} {c : Cx}

theorem Step.self {c : Cx} {st : St} {a : Act} {w : World} (h : StR E w0 B c st a w) : Step E w0 B c st c st a w := ⟨Cx.ext.refl _ _, h, Nat.le_refl _, fun _ _ _ => rfl⟩

theorem StR.with_mem {c c' : Cx} {st : St} {a : Act} {w w' : World} (h : StR E w0 B c st a w) (hc : c.le c') {h' : T ABk} {nx' : Nat} (S : SR w0 B c' h' nx' w') : StR E w0 B c' { st with heap := h', next := nx' } a w' :=
  ⟨S, h.tm.mono hc, h.defers.mono, h.gl.mono hc⟩

include HE HF in
/-- a call, as an operation -/
theorem callOp_ok {rec_ : Rec} (HR : RecOk P E w0 B rec_) {h h' : T ABk} {nx nx' : Nat} {w : World} (S : SR w0 B c h nx w) (hg : GlOk E c) {r : Operand → Option AV} {a : Act} {o : Oper} (hr : OpsR c r a.eval o.op) {v : AV}
    (he : evCallOp E rec_ r h nx o = some (v, h', nx')) {K : Act → World → Prop} {Q : Exit → Act → World → Prop}
    (hK : ∀ val w', AfterCall w0 B c h nx v h' nx' val w' → K (a.put o.dst val) w') : o.wp P a w K Q := by
  unfold evCallOp at he
  split at he
  · rename_i x args ats heq
    split at he
    · rename_i f first caps l hx hl
      have rx := hr x (by rw [heq]; simp [Op.operands, Call.operands]) _ hx
      have rl := evOperands_ok args.toList l (fun y hy => hr y (by rw [heq]; simp [Op.operands, Call.operands]; exact .inr (by simpa using hy))) hl
      obtain ⟨first', caps', hxe, r1, r2⟩ := rx.funcE
      have hall : LR c (first ++ l ++ caps) ((first' ++ args.map a.eval) ++ caps').toList := by
        have := (r1.append (by simpa using rl : LR c l (args.map a.eval).toList)).append r2
        simpa using this
      have hex : execOp a.eval o = callFunc f ((first' ++ args.map a.eval) ++ caps') := by
        unfold execOp
        rw [heq]
        simp only [resolve, hxe, Deferred.ofValue]
        rfl
      have hc := evCall_ok HE HF HR S hg hall he
      unfold Oper.wp
      rw [hex]
      rcases hc with ⟨val, w', h1, h2⟩ | ⟨h1, h2⟩
      · rw [h1]
        exact hK val w' h2
      · rw [h1]
        simp only [Oper.upon]
        refine h2.mono fun e w' ⟨val, he', h3⟩ => ?_
        subst he'
        exact hK val w' h3
    · cases he
  · cases he

include HE HF in
theorem evOp_ok {rec_ : Rec} (HR : RecOk P E w0 B rec_) {st st' : St} {a : Act} {w : World} (h : StR E w0 B c st a w) {o : Oper} (he : evOp E rec_ st o = some st') {K : Act → World → Prop} {Q : Exit → Act → World → Prop}
    (hK : ∀ c' a' w', Step E w0 B c st c' st' a' w' → K a' w') : o.wp P a w K Q := by
  have hops := opsR_of h o.op
  unfold evOp at he
  simp only at he
  have pure_case : (∀ v, evPure E (evOperand E st.tm) st.heap o = some v → Ev.put st o.dst v = some st' → o.wp P a w K Q) := fun v hv hp => by
    obtain ⟨val, h1, h2⟩ := evPure_ok HE h.mem.heap o hops hv
    obtain ⟨h3, h4, h5⟩ := h.put h2 hp
    unfold Oper.wp
    rw [h1]
    exact hK c _ w ⟨Cx.ext.refl _ _, h3, by omega, fun i _ _ => by rw [h4]⟩
  split at he
  · split at he
    · rename_i v hv; exact pure_case v hv he
    · cases he
  · split at he
    · rename_i v hv; exact pure_case v hv he
    · cases he
  · split at he
    · rename_i blk f hn
      obtain ⟨obj, val, w1, κ, h1, h2, h3⟩ := evNew_ok HE h.mem.size o hops hn
      obtain ⟨h4, h5⟩ := h3 st.next h.mem.unused
      have S' := h.mem.new h2 h4
      have he' := Cx.ext_add c st.next w.heap.size κ
      have hst := h.with_mem (h.mem.le (w' := w) he') S'
      obtain ⟨g1, g2, g3⟩ := hst.put h5 he
      unfold Oper.wp
      rw [h1]
      refine hK _ _ _ ⟨he', g1, by rw [g3]; exact Nat.le_succ _, fun i hi _ => ?_⟩
      rw [g2, T.get_put, if_neg (by omega)]
    · cases he
  · split at he
    · rename_i v h' nx' hv
      obtain ⟨c', w', val, h1, h2, h3, h4, h5, h6⟩ := evEff_ok HE h.mem o hops hv
      have hst := h.with_mem (h.mem.le (w' := w) h2) h3
      obtain ⟨g1, g2, g3⟩ := hst.put h4 he
      unfold Oper.wp
      rcases h1 with h1 | ⟨h1, rfl⟩ <;> rw [h1] <;> exact hK _ _ _ ⟨h2, g1, by rw [g3]; exact h5, fun i hi hn => by rw [g2]; exact h6 i hi hn⟩
    · cases he
  · split at he
    · rename_i v h' nx' hv
      refine callOp_ok HE HF HR h.mem h.gl hops hv fun val w' ⟨c', h2, h3, h4, h5, h6⟩ => ?_
      have hst := h.with_mem (h.mem.le (w' := w) h2) h3
      obtain ⟨g1, g2, g3⟩ := hst.put h4 he
      exact hK _ _ _ ⟨h2, g1, by rw [g3]; exact h5, fun i hi hn => by rw [g2]; exact h6 i hi hn⟩
    · cases he
  · split at he
    · rename_i x args ats heq
      split at he
      · rename_i f first caps l hx hl
        have rx := hops x (by rw [heq]; simp [Op.operands, Call.operands]) _ hx
        obtain ⟨first', caps', hxe, r1, r2⟩ := rx.funcE
        have hex : (execOp a.eval o).run P w = .ok (.defer { target := .fn (.func f) caps', args := first' ++ args.map a.eval }) w := by
          unfold execOp
          rw [heq]
          simp only [resolve, hxe, Deferred.ofValue, Sem.run_bind, Sem.run_pure, Result.andThen_ok]
        have hst : StR E w0 B c { st with defers := .func f (first ++ l) caps :: st.defers } { a with defers := { target := .fn (.func f) caps', args := first' ++ args.map a.eval } :: a.defers } w :=
          ⟨h.mem, h.tm, .cons rfl (by
            have rl := (evOperands_ok args.toList l (fun y hy => hops y (by rw [heq]; simp [Op.operands, Call.operands]; exact .inr (by simpa using hy))) hl).len
            have q1 := r1.len
            have q2 := r2.len
            simp at rl q1 q2
            simp
            omega) h.defers, h.gl⟩
        obtain ⟨g1, g2, g3⟩ := hst.put (LR.tup (arr := #[]) (LR.nil c)) he
        unfold Oper.wp
        rw [hex]
        exact hK _ _ _ ⟨Cx.ext.refl _ _, g1, by rw [g3]; exact Nat.le_refl _, fun i _ _ => by rw [g2]⟩
      · cases he
    · cases he

theorem wanted_ok {get : Nat → Option AV} {ops : Array Oper} {a : Act} {o : Oper} (hg : ∀ t x, get t = some x → ∃ v, a.tmps[t]? = some v ∧ VR c x v) {b : Bool} (h : wantedBy get ops.toList o = some b) : Region.wanted o (yielded ops a.tmps) = b := by
  unfold wantedBy at h
  unfold Region.wanted
  split at h
  · rename_i hn
    cases h
    rw [hn]
  · rename_i j want hn
    rw [hn]
    simp only
    split at h
    · rename_i oj hj
      rw [nth_eq, Array.getElem?_toList] at hj
      split at h
      · rename_i d hd
        have hy : ∀ v, a.tmps[d]? = some v → yielded ops a.tmps j = match v with | .bool b => some b | _ => none := fun v hv => by
          unfold yielded
          rw [hj]
          simp only [Option.bind_some, hd, hv]
          cases v <;> rfl
        split at h
        · rename_i b' hb
          cases h
          obtain ⟨v, h1, h2⟩ := hg d _ hb
          rw [hy v h1, h2.boolE]
          cases b' <;> cases want <;> rfl
        · rename_i x hne hb
          cases h
          obtain ⟨v, h1, h2⟩ := hg d _ hb
          rw [hy v h1]
          cases h2 <;> first | rfl | exact (hne _ rfl).elim
        · cases h
      · cases h
    · cases h

include HE HF in
theorem evOps_ok {rec_ : Rec} (HR : RecOk P E w0 B rec_) {ops : Array Oper} {Q : Exit → Act → World → Prop} : ∀ (k : Nat) (l : List Oper), ops.toList.drop k = l → ∀ (c : Cx) (st st' : St) (a : Act) (w : World), StR E w0 B c st a w →
    evOps E rec_ ops.toList l st = some st' → (∀ c' a' w', Step E w0 B c st c' st' a' w' → Q .normal a' w') → wpOps P ops Q (List.range' k l.length) a w := by
  intro k l
  induction l generalizing k with
  | nil =>
    intro hd c st st' a w h he hQ
    simp only [evOps, Option.some.injEq] at he
    subst he
    exact hQ c a w (Step.self h)
  | cons o l ih =>
    intro hd c st st' a w h he hQ
    have hk : ops.toList[k]? = some o := by
      have := congrArg (fun l => l[0]?) hd
      simpa using this
    have hk' : ops[k]? = some o := by rw [← Array.getElem?_toList]; exact hk
    have hd' : ops.toList.drop (k + 1) = l := by
      have := congrArg List.tail hd
      simpa [List.tail_drop] using this
    simp only [evOps] at he
    simp only [List.length_cons, List.range'_succ, wpOps, hk']
    split at he
    · rename_i hw
      have hwd := wanted_ok (ops := ops) (a := a) h.tm.at_ hw
      rw [hwd]
      simp only [if_true]
      split at he
      · rename_i st1 hop
        refine .inl (evOp_ok HE HF HR h hop fun c' a' w' hs => ?_)
        exact ih (k + 1) hd' c' st1 st' a' w' hs.rel he fun c'' a'' w'' hs' => hQ c'' a'' w'' (hs.trans hs')
      · cases he
    · rename_i hw
      have hwd := wanted_ok (ops := ops) (a := a) h.tm.at_ hw
      rw [hwd]
      simp only [Bool.false_eq_true, if_false]
      split at he
      · rename_i st1 hp
        obtain ⟨g1, g2, g3⟩ := h.put (LR.tup (arr := #[]) (LR.nil c)) hp
        have hs : Step E w0 B c st c st1 (a.put o.dst undef) w := ⟨Cx.ext.refl _ _, g1, by rw [g3]; exact Nat.le_refl _, fun i _ _ => by rw [g2]⟩
        exact ih (k + 1) hd' c st1 st' _ w g1 he fun c'' a'' w'' hs' => hQ c'' a'' w'' (hs.trans hs')
      · cases he
    · cases he

theorem exitTo_len (id : Nat) : ∀ (k k' : List Item), exitTo id k = some k' → k'.length ≤ k.length
  | [], k', h => by simp [exitTo] at h
  | x :: k, k', h => by
    cases x <;> simp only [exitTo] at h
    case inBlock id' =>
      split at h
      · cases h; simp
      · have := exitTo_len id k k' h; simp; omega
    all_goals (have := exitTo_len id k k' h; simp; omega)

theorem lone_inj {fr fr' : Frame} {cs cs' : List Frame} {w w' : World} (h : lone fr cs w = lone fr' cs' w') : fr = fr' := by
  have := congrArg Machine.gs h
  simp [lone] at this
  exact this.1

/-- a loop, a round at a time -/
theorem wp_loop_round {code : Code} {a : Act} {w : World} {Q : Exit → Act → World → Prop} (hg : ∀ l a w, ¬ Q (.goto l) a w) (ho : ∀ a w, ¬ Q .outgrown a w)
    (h : code.wp P (Exit.then ((Code.loop code).wp P Q) Q) a w) : (Code.loop code).wp P Q a w := by
  have hsteps : ∀ (b : Frame) (k : List Item) (cs : List Frame) (a : Act) (w : World) (m : Machine), Steps P (lone (b.at a (.code (.loop code) :: k)) cs w) m → m ≠ lone (b.at a (.code (.loop code) :: k)) cs w →
      Steps P (lone (b.at a (.inLoop code :: k)) cs w) m := by
    intro b k cs a w m ⟨n, hn⟩ hne
    cases n with
    | zero =>
      simp only [runN, Stepped.next.injEq] at hn
      exact absurd hn.symm hne
    | succ n =>
      simp only [runN, step_loop] at hn
      exact .head step_inLoop ⟨n, hn⟩
  have go : ∀ (b : Frame) (k : List Item) (cs : List Frame) (a : Act) (w : World), (Code.loop code).wp P Q a w → ∃ e a' w', Q e a' w' ∧ Arrives P (lone (b.at a (.inLoop code :: k)) cs w) b k cs e a' w' := by
    intro b k cs a w hl
    obtain ⟨e, a', w', hq, harr⟩ := hl b k cs
    refine ⟨e, a', w', hq, ?_⟩
    cases e with
    | normal =>
      refine hsteps b k cs a w _ harr fun e => ?_
      have := congrArg Frame.todo (lone_inj e)
      simp [Frame.at] at this
    | exit id =>
      refine fun k' hk => hsteps b k cs a w _ (harr k' hk) fun e => ?_
      have h1 := congrArg Frame.todo (lone_inj e)
      have h2 := exitTo_len id k k' hk
      simp only [Frame.at] at h1
      rw [h1] at h2
      simp at h2
      omega
    | goto l => exact (hg _ _ _ hq).elim
    | ret =>
      obtain ⟨todo, hs⟩ := harr
      refine ⟨todo, hsteps b k cs a w _ hs fun e => ?_⟩
      have := congrArg Frame.mode (lone_inj e)
      simp [Frame.at] at this
    | panic ch =>
      obtain ⟨todo, hs⟩ := harr
      refine ⟨todo, hsteps b k cs a w _ hs fun e => ?_⟩
      have := congrArg Frame.mode (lone_inj e)
      simp [Frame.at] at this
    | outgrown => exact (ho _ _ hq).elim
  intro b k cs
  obtain ⟨e, a₁, w₁, hq, harr⟩ := h b (.inLoop code :: k) cs
  cases e with
  | normal =>
    obtain ⟨e₂, a₂, w₂, hq₂, harr₂⟩ := go b k cs a₁ w₁ hq
    exact ⟨e₂, a₂, w₂, hq₂, .of_steps (.head step_loop harr) harr₂⟩
  | exit id => exact ⟨_, a₁, w₁, hq, .of_steps (.one step_loop) (.pass (x := .inLoop code) rfl (fun _ _ => .inl (by simp)) harr)⟩
  | goto l => exact ⟨_, a₁, w₁, hq, .of_steps (.one step_loop) (.pass (x := .inLoop code) rfl (fun _ _ => .inl (by simp)) harr)⟩
  | ret => exact ⟨_, a₁, w₁, hq, .of_steps (.one step_loop) (.pass (x := .inLoop code) rfl (fun _ _ => .inl (by simp)) harr)⟩
  | panic ch => exact ⟨_, a₁, w₁, hq, .of_steps (.one step_loop) (.pass (x := .inLoop code) rfl (fun _ _ => .inl (by simp)) harr)⟩
  | outgrown => exact ⟨_, a₁, w₁, hq, .of_steps (.one step_loop) (.pass (x := .inLoop code) rfl (fun _ _ => .inl (by simp)) harr)⟩

/-- a region that draws (Ev's own text behind this one) -/
def DrawOk (P : Program) (E : Env) (w0 : World) (B : Nat) : Prop :=
  ∀ rec_ : Rec, RecOk P E w0 B rec_ → ∀ (id : Nat) (ops : Array Oper) (st st' : St), evDraw E rec_ ops.toList st = some st' → ∀ c a w, StR E w0 B c st a w → ∀ Q : Exit → Act → World → Prop,
    (∀ a w, ¬ Q .outgrown a w) → (∀ ch a w, ¬ Q (.panic ch) a w) → (∀ c' a' w', Step E w0 B c st c' st' a' w' → Q .normal a' w') → (Code.region id ops true).wp P Q a w

include HE HF in
theorem evStep_ok (HD : DrawOk P E w0 B) {rec_ : Rec} (HR : RecOk P E w0 B rec_) : RecOk P E w0 B (evStep E rec_) := by
  intro code st ex st' he c a w h Q' hQ'
  -- only the exits that there are
  let Q : Exit → Act → World → Prop := fun e a' w' => (match e with | .goto _ | .outgrown | .panic _ => False | _ => True) ∧ Q' e a' w'
  have hQ : ∀ c' a' w', Step E w0 B c st c' st' a' w' → Q (exOf ex) a' w' := fun c' a' w' hs => ⟨by cases ex <;> trivial, hQ' c' a' w' hs⟩
  have hQg : ∀ l a w, ¬ Q (.goto l) a w := fun l a w hh => hh.1
  have hQo : ∀ a w, ¬ Q .outgrown a w := fun a w hh => hh.1
  have hQp : ∀ ch a w, ¬ Q (.panic ch) a w := fun ch a w hh => hh.1
  suffices code.wp P Q a w from wp_mono this fun e a w hh => hh.2
  unfold evStep at he
  cases code <;> simp only at he <;> try (cases he; done)
  case skip =>
    cases he
    exact wp_skip (hQ c a w (Step.self h))
  case region id ops draw =>
    cases draw
    · simp only at he
      cases hh : evOps E rec_ ops.toList ops.toList st with
      | none => rw [hh] at he; cases he
      | some s =>
        rw [hh] at he
        cases he
        refine wp_region ?_
        have := evOps_ok HE HF HR (Q := Q) 0 ops.toList rfl c st st' a w h hh (fun c' a' w' hs => hQ c' a' w' hs)
        rw [List.range_eq_range']
        simpa using this
    · simp only at he
      cases hh : evDraw E rec_ ops.toList st with
      | none => rw [hh] at he; cases he
      | some s =>
        rw [hh] at he
        cases he
        exact HD rec_ HR id ops st st' hh c a w h Q hQo hQp (fun c' a' w' hs => hQ c' a' w' hs)
  case seq x y =>
    split at he
    · rename_i st1 hx
      refine wp_seq (HR _ _ _ _ hx c a w h _ fun c' a' w' hs => ?_)
      exact HR _ _ _ _ he c' a' w' hs.rel _ fun c'' a'' w'' hs' => hQ c'' a'' w'' (hs.trans hs')
    · rename_i r hne
      refine wp_seq (HR _ _ _ _ he c a w h _ fun c' a' w' hs => ?_)
      have := hQ c' a' w' hs
      cases ex with
      | norm => exact (hne st' he).elim
      | exit id => exact this
      | ret => exact this
  case cond x y z =>
    split at he
    · rename_i hx
      exact wp_cond_true (evOperand_ok h.tm h.gl x _ hx).boolE (HR _ _ _ _ he c a w h _ hQ)
    · rename_i hx
      exact wp_cond_false (evOperand_ok h.tm h.gl x _ hx).boolE (HR _ _ _ _ he c a w h _ hQ)
    · cases he
  case block id x =>
    split at he
    · rename_i i st1 hx
      split at he
      · rename_i hi
        cases he
        have hi := Nat.eq_of_beq_eq_true hi
        subst hi
        refine wp_block (HR _ _ _ _ hx c a w h _ fun c' a' w' hs => ?_)
        simp only [exOf, Exit.inBlock, if_true]
        exact hQ c' a' w' hs
      · rename_i hi
        cases he
        have hi := Nat.ne_of_beq_eq_false hi
        refine wp_block (HR _ _ _ _ hx c a w h _ fun c' a' w' hs => ?_)
        simp only [exOf, Exit.inBlock, hi, if_false]
        exact hQ c' a' w' hs
    · rename_i r hne
      refine wp_block (HR _ _ _ _ he c a w h _ fun c' a' w' hs => ?_)
      have := hQ c' a' w' hs
      cases ex with
      | norm => exact this
      | exit i => exact (hne i st' he).elim
      | ret => exact this
  case loop x =>
    refine wp_loop_round hQg hQo ?_
    split at he
    · rename_i st1 hx
      refine HR _ _ _ _ hx c a w h _ fun c' a' w' hs => ?_
      exact HR _ _ _ _ he c' a' w' hs.rel _ fun c'' a'' w'' hs' => hQ c'' a'' w'' (hs.trans hs')
    · rename_i r hne
      refine HR _ _ _ _ he c a w h _ fun c' a' w' hs => ?_
      have := hQ c' a' w' hs
      cases ex with
      | norm => exact (hne st' he).elim
      | exit id => exact this
      | ret => exact this
  case scope x =>
    refine wp_scope_straight (HR _ _ _ _ he c a w h _ fun c' a' w' hs => ?_)
    have := hQ c' a' w' hs
    cases ex <;> exact this
  case exit id =>
    cases he
    exact wp_exit (hQ c a w (Step.self h))
  case ret =>
    cases he
    exact wp_ret (hQ c a w (Step.self h))

include HE HF in
theorem ev_ok (HD : DrawOk P E w0 B) : ∀ n, RecOk P E w0 B (ev E n)
  | 0 => fun code st ex st' he => by cases he
  | n + 1 => evStep_ok HE HF HD (ev_ok HD n)

end
end Ev
end Go.Proofs.YtfmnoohkllmbmaaGreatDoor
