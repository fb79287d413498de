/- The evaluator: EvCodeP. -/
import Derived.Test.YtfmnoohkllmbmaaGreatDoorEvEff3P
set_option linter.unusedVariables false
set_option linter.unusedSimpArgs false
namespace Go.Proofs.YtfmnoohkllmbmaaGreatDoor
namespace Ev
open Go.RowKit

/-- a call that answers -/
def CallsAny (P : Program) (f : FuncId) (vs : Array Value) (w : World) (R : Value → World → Prop) : Prop :=
  (∃ v w', (callFunc f vs).run P w = .ok (.value v) w' ∧ R v w') ∨
  ((callFunc f vs).run P w = .ok (.enter f vs) w ∧ Calls P f vs w fun e w' => ∃ v, e = .returned v ∧ R v w')

/-- what is known of the functions -/
structure FnsOk (P : Program) (E : Env) : Prop where
  mixed : P.follows .mixedOrders = true
  fn : ∀ f fn, E.fn.get f = some fn → P.funcs[f]? = some fn ∧ (fn.name == "runtime.NumGoroutine") = false
  pure : ∀ f g, E.pure.get f = some g → ∀ (c : Cx) (args : List AV) (vs : Array Value) (v : AV) (w : World), LR c args vs.toList → g args = some v →
    CallsAny P f vs w fun val w' => VR c v val ∧ Below w.heap.size w w'
  idle : ∀ f n, E.idle.get f = some n → ∀ (vs : Array Value) (w : World), vs.size = n → (callFunc f vs).run P w = .ok (.enter f vs) w ∧
    CallsD P f vs .returning w fun e u' w' => (∃ v, e = .returned v) ∧ u' = .returning ∧ Below w.heap.size w w'

def GlOk (E : Env) (c : Cx) : Prop := ∀ g b, E.gl.get g = some b → c.ρ b = some g

theorem GlOk.mono {E : Env} {c c' : Cx} (h : GlOk E c) (hc : c.le c') : GlOk E c' := fun g b hb => hc.ρ b g (h g b hb)

structure TRel (c : Cx) (nt : Nat) (tm : T AV) (tmps : Array Value) : Prop where
  size : nt ≤ tmps.size
  at_ : ∀ t x, tm.get t = some x → ∃ v, tmps[t]? = some v ∧ VR c x v

/-- deferred calls -/
inductive DRel (c : Cx) : List AV → List Deferred → Prop
  | nil : DRel c [] []
  | cons {f : Nat} {xs ys : List AV} {d : Deferred} {l : List AV} {ds : List Deferred} {caps : Array Value} (ht : d.target = .fn (.func f) caps) (hn : (d.args ++ caps).size = xs.length + ys.length) (hl : DRel c l ds) : DRel c (.func f xs ys :: l) (d :: ds)

structure StR (E : Env) (w0 : World) (B : Nat) (c : Cx) (st : St) (a : Act) (w : World) : Prop where
  mem : SR w0 B c st.heap st.next w
  tm : TRel c st.nt st.tm a.tmps
  defers : DRel c st.defers a.defers
  gl : GlOk E c

/-- what comes behind a part of the code -/
structure Step (E : Env) (w0 : World) (B : Nat) (c : Cx) (st : St) (c' : Cx) (st' : St) (a' : Act) (w' : World) : Prop where
  ext : c.ext st.next c'
  rel : StR E w0 B c' st' a' w'
  next : st.next ≤ st'.next
  still : ∀ i, i < st.next → c.ρ i = none → st'.heap.get i = st.heap.get i

theorem Step.trans {E : Env} {w0 : World} {B : Nat} {c c' c'' : Cx} {st st' st'' : St} {a' a'' : Act} {w' w'' : World} (h : Step E w0 B c st c' st' a' w') (k : Step E w0 B c' st' c'' st'' a'' w'') :
    Step E w0 B c st c'' st'' a'' w'' :=
  ⟨h.ext.trans h.next k.ext, k.rel, Nat.le_trans h.next k.next, fun i hi hn => by
    rw [k.still i (Nat.lt_of_lt_of_le hi h.next) (by rw [h.ext.ρ i hi]; exact hn), h.still i hi hn]⟩

def exOf : Ex → Exit
  | .norm => .normal
  | .exit id => .exit id
  | .ret => .ret

def RecOk (P : Program) (E : Env) (w0 : World) (B : Nat) (rec_ : Rec) : Prop :=
  ∀ code st ex st', rec_ code st = some (ex, st') → ∀ c a w, StR E w0 B c st a w → ∀ Q : Exit → Act → World → Prop,
    (∀ c' a' w', Step E w0 B c st c' st' a' w' → Q (exOf ex) a' w') → code.wp P Q a w

theorem DRel.mono {c c' : Cx} {l : List AV} {ds : List Deferred} (h : DRel c l ds) : DRel c' l ds := by
  induction h with
  | nil => exact .nil
  | cons ht hn _ ih => exact .cons ht hn ih

theorem TRel.mono {c c' : Cx} (hc : c.le c') {nt : Nat} {tm : T AV} {tmps : Array Value} (h : TRel c nt tm tmps) : TRel c' nt tm tmps :=
  ⟨h.size, fun t x hx => by obtain ⟨v, h1, h2⟩ := h.at_ t x hx; exact ⟨v, h1, h2.mono hc⟩⟩

theorem SR.le {w0 w w' : World} {B nx : Nat} {c c' : Cx} {h : T ABk} (S : SR w0 B c h nx w) (he : c.ext nx c') : c.le c' := he.le S.fresh

/-- what is below stays -/
theorem SR.under {w0 w w' : World} {B nx : Nat} {c : Cx} {h : T ABk} (S : SR w0 B c h nx w) (hb : Below w.heap.size w w') : SR w0 B c h nx w' := by
  refine ⟨S.below.trans (hb.mono S.size), Nat.le_trans S.size hb.size, ⟨fun i x b hi hib => ?_, S.heap.inj⟩, S.fresh, S.top⟩
  obtain ⟨o, ho, hr⟩ := S.heap.bk i x b hi hib
  exact ⟨o, (hb.block b (S.heap.lt hi hib)).trans ho, hr⟩

section
variable {P : Program} {E : Env} (HE : EnvOk P E) (HF : FnsOk P E) {w0 : World} {B : Nat} {c : Cx}

theorem evOperand_ok {tm : T AV} {nt : Nat} {a : Act} (ht : TRel c nt tm a.tmps) (hg : GlOk E c) (x : Operand) (v : AV) (h : evOperand E tm x = some v) : VR c v (a.eval x) := by
  cases x with
  | tmp t =>
    simp only [evOperand] at h
    obtain ⟨u, h1, h2⟩ := ht.at_ t v h
    have : a.eval (.tmp t) = u := by simp [Act.eval, h1]
    rw [this]
    exact h2
  | const u => exact cvt_ok c u v h
  | global g =>
    simp only [evOperand] at h
    split at h
    · rename_i b hb
      cases h
      exact .ptr (hg g b hb)
    · cases h
  | func f =>
    simp only [evOperand, Option.some.injEq] at h
    subst h
    exact .func rfl (fun k a v h => by simp at h) rfl (fun k a v h => by simp at h)

theorem TRel.put {nt : Nat} {tm : T AV} {a : Act} (ht : TRel c nt tm a.tmps) {d : Nat} (hd : d < nt) {x : AV} {v : Value} (hv : VR c x v) : TRel c nt (tm.put (some x) d) (a.put (some d) v).tmps := by
  have hs := ht.size
  refine ⟨by simp [Act.put]; exact hs, fun t y hy => ?_⟩
  rw [T.get_put] at hy
  split at hy
  · rename_i e
    subst e
    cases hy
    exact ⟨v, by simp only [Act.put]; rw [Array.getElem?_setIfInBounds_self_of_lt (by omega)], hv⟩
  · rename_i e
    obtain ⟨u, h1, h2⟩ := ht.at_ t y hy
    exact ⟨u, by simp only [Act.put]; rw [Array.getElem?_setIfInBounds_ne (Ne.symm e)]; exact h1, h2⟩

/-- a temporary is written -/
theorem StR.put {st st' : St} {a : Act} {w : World} (h : StR E w0 B c st a w) {dst : Option Nat} {x : AV} {v : Value} (hv : VR c x v) (he : Ev.put st dst x = some st') : StR E w0 B c st' (a.put dst v) w ∧ st'.heap = st.heap ∧ st'.next = st.next := by
  unfold Ev.put at he
  split at he
  · cases he
    exact ⟨h, rfl, rfl⟩
  · rename_i d
    split at he
    · rename_i hd
      cases he
      rw [Nat.blt_eq] at hd
      exact ⟨⟨h.mem, h.tm.put hd hv, h.defers, h.gl⟩, rfl, rfl⟩
    · cases he

/-- the operations of a region see related values -/
theorem opsR_of {st : St} {a : Act} {w : World} (h : StR E w0 B c st a w) (o : Op) : OpsR c (evOperand E st.tm) a.eval o := fun x _ v hv => evOperand_ok h.tm h.gl x v hv

def resRun (tmps : Array Value) : ResultVar → Sem Value
  | .tmp t => pure (tmps.getD t undef)
  | .cell a t => do loadVar t (← asAddr (tmps.getD a undef))

theorem results_ok (HE : EnvOk P E) {h : T ABk} {w : World} (H : HR c B h w) {tm : T AV} {nt : Nat} {tmps : Array Value} (ht : TRel c nt tm tmps) : ∀ (rs : List ResultVar) (l : List AV), resultsOf E tm h rs = some l →
    ∃ vs : List Value, (rs.mapM (resRun tmps)).run P w = .ok vs w ∧ LR c l vs
  | [], l, hl => by
    simp only [resultsOf, Option.some.injEq] at hl
    subst hl
    exact ⟨[], by simp, LR.nil c⟩
  | r :: rs, l, hl => by
    simp only [resultsOf] at hl
    split at hl
    · rename_i v hv
      split at hl
      · rename_i l' hl'
        cases hl
        obtain ⟨vs, h1, h2⟩ := results_ok HE H ht rs l' hl'
        have : ∃ u, (resRun tmps r).run P w = .ok u w ∧ VR c v u := by
          cases r with
          | tmp t =>
            obtain ⟨u, g1, g2⟩ := ht.at_ t v hv
            exact ⟨u, by simp [resRun, g1], g2⟩
          | cell t ty =>
            simp only [resultOf] at hv
            split at hv
            · rename_i b o ti hb hti
              obtain ⟨u, g1, g2⟩ := ht.at_ t _ hb
              obtain ⟨b', rfl, hbb⟩ := g2.ptrE
              obtain ⟨x, g3, g4⟩ := H.loadVar (HE.ty _ _ hti) hbb hv
              exact ⟨x, by simp [resRun, g1, asAddr, g3], g4⟩
            · cases hv
        obtain ⟨u, g1, g2⟩ := this
        refine ⟨u :: vs, ?_, LR.cons g2 h2⟩
        rw [List.mapM_cons]
        simp only [Sem.run_bind, g1, h1, Result.andThen_ok, Sem.run_pure]
      · cases hl
    · cases hl

def oneOf : List AV → AV
  | [x] => x
  | l => .tup l

/-- what a function answers -/
theorem resultsV_ok (HE : EnvOk P E) {h : T ABk} {w : World} (H : HR c B h w) {tm : T AV} {nt : Nat} {fn : Func} {tmps : Array Value} (ht : TRel c nt tm tmps) {l : List AV} (hl : resultsOf E tm h fn.results.toList = some l) :
    ∃ v, (results fn tmps).run P w = .ok v w ∧ VR c (oneOf l) v := by
  obtain ⟨vs, h1, h2⟩ := results_ok (P := P) HE H ht fn.results.toList l hl
  have hdef : results fn tmps = (do let vs ← fn.results.mapM (resRun tmps); pure (if h : vs.size = 1 then vs[0] else .tuple vs)) := rfl
  have hrun : (results fn tmps).run P w = .ok (if h : vs.toArray.size = 1 then vs.toArray[0] else .tuple vs.toArray) w := by
    rw [hdef, Array.mapM_eq_mapM_toList]
    simp only [Sem.run_bind, Sem.run_map, h1, Result.andThen_ok, Sem.run_pure]
  refine ⟨_, hrun, ?_⟩
  have hlen := h2.len
  clear hl hrun h1 hdef
  rcases l with _ | ⟨x, _ | ⟨y, r⟩⟩
  · rcases vs with _ | ⟨v, vs⟩
    · exact LR.tup h2
    · simp at hlen
  · rcases vs with _ | ⟨v, _ | ⟨u, vs⟩⟩
    · simp at hlen
    · exact h2.head
    · simp at hlen
  · rcases vs with _ | ⟨v, _ | ⟨u, vs⟩⟩
    · simp at hlen
    · simp at hlen
    · rw [dif_neg (by simp)]
      exact LR.tup (by simpa using h2)

theorem lay_get : ∀ (as : List AV) (i t : Nat) (tm : T AV), (lay as i tm).get t = if i ≤ t ∧ t < i + as.length then as[t - i]? else tm.get t
  | [], i, t, tm => by
    simp only [lay, List.length_nil]
    rw [if_neg (by omega)]
  | a :: as, i, t, tm => by
    simp only [lay, List.length_cons]
    rw [lay_get as (i + 1) t, T.get_put]
    by_cases h1 : t = i
    · subst h1
      rw [if_neg (by omega), if_pos rfl, if_pos (by omega)]
      simp
    · by_cases h2 : i + 1 ≤ t ∧ t < i + 1 + as.length
      · rw [if_pos h2, if_pos (by omega), show t - i = (t - (i + 1)) + 1 by omega]
        simp
      · rw [if_neg h2, if_neg h1, if_neg (by omega)]

include HF in
theorem leaves_ok {h : T ABk} {nx : Nat} {fn : Func} {tmps : Array Value} {R : Ending → World → Prop} {l : List AV} {ds : List Deferred} (hd : DRel c l ds) (w : World) (hi : idleAll E l = true) (hS : SR w0 B c h nx w)
    (hR : ∀ w', SR w0 B c h nx w' → ∃ v, (results fn tmps).run P w' = .ok v w' ∧ R (.returned v) w') : Leaves P fn tmps R ds .returning w := by
  induction hd generalizing w with
  | nil => exact hR w hS
  | @cons f xs ys d l ds caps ht hn hl ih =>
    obtain ⟨target, dargs⟩ := d
    simp only at ht hn
    subst ht
    simp only [idleAll] at hi
    split at hi
    · rename_i hu
      split at hi
      · rename_i hq
        obtain ⟨h1, h2⟩ := HF.idle f _ hu (dargs ++ caps) w (by rw [hn, Nat.eq_of_beq_eq_true hq])
        refine leaves_cons (by simp) h1 (h2.mono fun e u' w' => ?_)
        rintro ⟨⟨v, rfl⟩, rfl, hb⟩
        exact ih w' hi (hS.under hb)
      · cases hi
    · cases hi

/-- what is known behind a call -/
def AfterCall (w0 : World) (B : Nat) (c : Cx) (h : T ABk) (nx : Nat) (v : AV) (h' : T ABk) (nx' : Nat) (val : Value) (w' : World) : Prop :=
  ∃ c', c.ext nx c' ∧ SR w0 B c' h' nx' w' ∧ VR c' v val ∧ nx ≤ nx' ∧ ∀ i, i < nx → c.ρ i = none → h'.get i = h.get i

include HE HF in
theorem evCall_ok {rec_ : Rec} (HR : RecOk P E w0 B rec_) {h h' : T ABk} {nx nx' f : Nat} {args : List AV} {vs : Array Value} {v : AV} {w : World} (S : SR w0 B c h nx w) (hg : GlOk E c) (hl : LR c args vs.toList)
    (he : evCall E rec_ h nx f args = some (v, h', nx')) : CallsAny P f vs w (AfterCall w0 B c h nx v h' nx') := by
  unfold evCall at he
  split at he
  · rename_i g hpg
    cases hga : g args with
    | none => rw [hga] at he; cases he
    | some x =>
      rw [hga] at he
      cases he
      have post : ∀ val w', VR c v val ∧ Below w.heap.size w w' → AfterCall w0 B c h nx v h nx val w' := fun val w' ⟨h1, h2⟩ => ⟨c, Cx.ext.refl _ _, S.under h2, h1, Nat.le_refl _, fun _ _ _ => rfl⟩
      rcases HF.pure f g hpg c args vs v w hl hga with ⟨val, w', h1, h2⟩ | ⟨h1, h2⟩
      · exact .inl ⟨val, w', h1, post val w' h2⟩
      · exact .inr ⟨h1, h2.mono fun e w' ⟨val, h3, h4⟩ => ⟨val, h3, post val w' h4⟩⟩
  · split at he
    · cases he
    · rename_i fn hfn
      obtain ⟨hf1, hf2⟩ := HF.fn f fn hfn
      split at he
      · cases he
      · rename_i code hb
        refine .inr ⟨?_, ?_⟩
        · have hbn : fn.body.isNone = false := by rw [hb]; rfl
          unfold callFunc
          simp only [Sem.run_bind, run_program, Result.andThen_ok, hf1]
          rw [if_neg (by simpa using hf2), if_neg (by simp [hbn])]
          rfl
        · refine calls_of_wp_defers hf1 hb ?_
          have hlen := hl.len
          simp at hlen
          have st0 : StR E w0 B c { tm := lay args 0 .leaf, nt := fn.ntmps, defers := [], heap := h, next := nx } { tmps := vs ++ Array.replicate (fn.ntmps - vs.size) undef, defers := [] } w := by
            refine ⟨S, ⟨by simp; omega, fun t x hx => ?_⟩, .nil, hg⟩
            rw [lay_get] at hx
            split at hx
            · rename_i ht
              obtain ⟨u, h1, h2⟩ := hl.get hx
              refine ⟨u, ?_, h2⟩
              rw [Array.getElem?_append_left (by omega)]
              rw [Array.getElem?_toList] at h1
              simpa using h1
            · cases hx
          have done : ∀ (s : St) (c' : Cx) (a' : Act) (w' : World), Step E w0 B c { tm := lay args 0 .leaf, nt := fn.ntmps, defers := [], heap := h, next := nx } c' s a' w' →
              (match idleAll E s.defers with
                | false => none
                | true => match resultsOf E s.tm s.heap fn.results.toList with
                  | some [v] => some (v, s.heap, s.next)
                  | some l => some (.tup l, s.heap, s.next)
                  | none => none) = some (v, h', nx') →
              Leaves P fn a'.tmps (fun e w' => ∃ val, e = .returned val ∧ AfterCall w0 B c h nx v h' nx' val w') a'.defers .returning w' := by
            intro s c' a' w' hs hh
            split at hh
            · cases hh
            · rename_i hid
              have key : ∀ l, resultsOf E s.tm s.heap fn.results.toList = some l → oneOf l = v → s.heap = h' → s.next = nx' →
                  Leaves P fn a'.tmps (fun e w' => ∃ val, e = .returned val ∧ AfterCall w0 B c h nx v h' nx' val w') a'.defers .returning w' := by
                intro l hl' hv hh1 hh2
                subst hh1
                subst hh2
                refine leaves_ok HF hs.rel.defers w' hid hs.rel.mem (fun w'' hS'' => ?_)
                obtain ⟨val, h1, h2⟩ := resultsV_ok (P := P) HE hS''.heap hs.rel.tm hl'
                rw [hv] at h2
                exact ⟨val, h1, val, rfl, c', hs.ext, hS'', h2, hs.next, hs.still⟩
              split at hh
              · rename_i x hl'
                cases hh
                exact key _ hl' rfl rfl rfl
              · rename_i l hne hl'
                cases hh
                refine key _ hl' ?_ rfl rfl
                match l, hne with
                | [], _ => rfl
                | [x], hne => exact absurd rfl (hne x)
                | _ :: _ :: _, _ => rfl
              · cases hh
          split at he
          · rename_i s hrec
            exact HR _ _ _ _ hrec c _ w st0 _ (fun c' a' w' hs => done s c' a' w' hs he)
          · rename_i s hrec
            exact HR _ _ _ _ hrec c _ w st0 _ (fun c' a' w' hs => done s c' a' w' hs he)
          · cases he

end
end Ev
end Go.Proofs.YtfmnoohkllmbmaaGreatDoor
