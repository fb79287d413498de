/- The evaluator: EvDraw5P. -/
import Derived.Test.YtfmnoohkllmbmaaGreatDoorEvDraw4P
set_option linter.unusedVariables false
set_option linter.unusedSimpArgs false
namespace Go.Proofs.YtfmnoohkllmbmaaGreatDoor
namespace Ev
open Go.RowKit

mutual
theorem beq_eq : ∀ (a b : AV), AV.beq a b = true → a = b
  | a, b, h => by
    cases a <;> cases b <;> simp only [AV.beq] at h <;> try (cases h; done)
    all_goals first
      | rfl
      | (rename_i x y; cases x <;> cases y <;> first | rfl | cases h)
      | (simp only [Bool.and_eq_true] at h; rw [kindEq_eq h.1]; have h2 := h.2; rw [eqI_eq] at h2; simp at h2; rw [h2])
      | (rw [eqL_eq] at h; simp at h; rw [h])
      | (simp only [Bool.and_eq_true] at h; obtain ⟨⟨⟨h1, h2⟩, h3⟩, h4⟩ := h; rw [Nat.eq_of_beq_eq_true h1, Nat.eq_of_beq_eq_true h2, Nat.eq_of_beq_eq_true h3, Nat.eq_of_beq_eq_true h4])
      | (simp only [Bool.and_eq_true] at h; obtain ⟨⟨h1, h2⟩, h3⟩ := h; rw [Nat.eq_of_beq_eq_true h1, beqL_eq _ _ h2, beqL_eq _ _ h3])
      | (simp only [Bool.and_eq_true] at h; obtain ⟨h1, h2⟩ := h; rw [Nat.eq_of_beq_eq_true h1, Nat.eq_of_beq_eq_true h2])
      | (simp only [Bool.and_eq_true] at h; obtain ⟨h1, h2⟩ := h; rw [Nat.eq_of_beq_eq_true h1, beq_eq _ _ h2])
      | (rw [Nat.eq_of_beq_eq_true h])
      | (rw [beqL_eq _ _ h])
theorem beqL_eq : ∀ (a b : List AV), beqL a b = true → a = b
  | [], [], _ => rfl
  | [], _ :: _, h => by cases h
  | _ :: _, [], h => by cases h
  | a :: x, b :: y, h => by
    simp only [beqL, Bool.and_eq_true] at h
    rw [beq_eq a b h.1, beqL_eq x y h.2]
end

theorem drPend_ok {E : Env} {b : Nat} {h : T ABk} : ∀ (l l' : List (Nat × Oper × T AV × AV)), drPend E b h l = some l' → ∀ i o tm v, (i, o, tm, v) ∈ l → ¬ b.testBit i = true → evPure E (evOperand E tm) h o = some v ∧ (i, o, tm, v) ∈ l'
  | [], l', _, i, o, tm, v, hm, _ => by cases hm
  | (i0, o0, tm0, v0) :: l, l', he, i, o, tm, v, hm, hb => by
    simp only [drPend] at he
    split at he
    · rename_i hbit
      rw [bit_eq] at hbit
      cases hm with
      | head => exact absurd hbit hb
      | tail _ hm => exact drPend_ok l l' he i o tm v hm hb
    · split at he
      · rename_i v' hv
        split at he
        · rename_i hq
          cases hr : drPend E b h l with
          | none => rw [hr] at he; cases he
          | some l2 =>
            rw [hr] at he
            cases he
            cases hm with
            | head => exact ⟨by rw [hv, beq_eq _ _ hq], by simp⟩
            | tail _ hm =>
              obtain ⟨g1, g2⟩ := drPend_ok l l2 hr i o tm v hm hb
              exact ⟨g1, List.mem_cons_of_mem _ g2⟩
        · cases he
      · cases he

theorem within_of {b s : Nat} (h : ∀ j, b.testBit j = true → s.testBit j = true) : within b s = true := by
  have : b &&& s = b := by
    apply Nat.eq_of_testBit_eq
    intro j
    rw [Nat.testBit_and]
    cases hb : b.testBit j with
    | false => rfl
    | true => rw [h j hb]; rfl
  unfold within
  show Nat.beq (b &&& s) b = true
  rw [this]
  exact Nat.beq_refl b

theorem drFull_ok {E : Env} {done : Nat} : ∀ (l : List Oper) (bs : List Nat) (k : Nat), drFull E done l bs k = true → ∀ (i : Nat) (o : Oper) (b : Nat), l[i]? = some o → bs[i]? = some b → isEff E o = false → within b done = true → done.testBit (k + i) = true
  | [], bs, k, _, i, o, b, h, _, _, _ => by simp at h
  | x :: l, [], k, h, i, o, b, _, hb, _, _ => by simp at hb
  | x :: l, y :: bs, k, h, i, o, b, ho, hb, he, hw => by
    simp only [drFull] at h
    split at h
    · rename_i hc
      cases i with
      | zero =>
        simp at ho hb
        subst ho
        subst hb
        rw [he, hw] at hc
        simp [bit_eq] at hc
        simpa using hc
      | succ i =>
        simp at ho hb
        have := drFull_ok l bs (k + 1) h i o b ho hb he hw
        rw [show k + (i + 1) = k + 1 + i by omega]
        exact this
    · cases h

theorem behind_ok {bef : List Nat} {e : Nat} : ∀ (l : List Nat), behind bef e l = true → ∀ i ∈ l, bb bef i e
  | [], _, i, h => by cases h
  | x :: l, h, i, hi => by
    simp only [behind] at h
    split at h
    · rename_i b hb
      split at h
      · rename_i hbit
        rw [bit_eq] at hbit
        cases hi with
        | head => exact ⟨b, hb, hbit⟩
        | tail _ hi => exact behind_ok l h i hi
      · cases h
    · cases h

section
variable {P : Program} {E : Env} (HE : EnvOk P E) (HF : FnsOk P E) {w0 : World} {B : Nat} {ops : Array Oper} {bef : List Nat} (F : SF E ops bef) {c : Cx} {st : St} {a0 : Act} {e : Nat} {es : List Nat}
  {V : Nat → AV} {TM : Nat → T AV} {ID : Nat → Nat} {cx : Cx} {C : Dr} {listed : Array Bool} {a : Act} {w : World}

include F in
/-- an operation with an effect has come up -/
theorem AI.after (A : AI E w0 B ops bef c st a0 (e :: es) V TM ID cx C listed a w) {o : Oper} {b : Nat} (ho : ops[e]? = some o) (hne : isEff E o = true) (hD : ¬ C.done.testBit e = true) (hb : nth bef e = some b) (hin : within b C.done = true)
    (hr : ∀ e' ∈ o.after.toList, Region.binds .any e' = true → Ls listed e'.on) {cx' : Cx} {w' : World} {val : Value} {v : AV} {tm' : T AV} {h' : T ABk} {nx' : Nat} {l : List (Nat × Oper × T AV × AV)}
    (hx : cx.ext C.nx cx') (hS : SR w0 B cx' h' nx' w') (hv : VR cx' v val) (hn : C.nx ≤ nx') (hu : ∀ i, i < C.nx → cx.ρ i = none → h'.get i = C.h.get i)
    (hp : putT st.nt C.tm o.dst v = some tm') (hl : drPend E b h' C.pend = some l) :
    AI E w0 B ops bef c st a0 es (upd V e v) TM ID cx' ⟨tm', h', nx', Nat.lor C.done (2 ^ e), l⟩ (listed.setIfInBounds e true) (a.put o.dst val) w' := by
  have hL : ¬ Ls listed e := fun h => hD (A.sub e h)
  have hi : e < ops.size := by
    rcases Nat.lt_or_ge e ops.size with h | h
    · exact h
    · rw [Array.getElem?_eq_none h] at ho; cases ho
  have hil : e < listed.size := by rw [A.size]; exact hi
  have key : ∀ j, Ls (listed.setIfInBounds e true) j ↔ j = e ∨ Ls listed j := fun j => ls_set hil
  have nkey : ∀ j, ¬ Ls (listed.setIfInBounds e true) j → j ≠ e ∧ ¬ Ls listed j := fun j h => ⟨fun e' => h ((key j).2 (.inl e')), fun e' => h ((key j).2 (.inr e'))⟩
  have dn : ∀ j, (Nat.lor C.done (2 ^ e)).testBit j = true ↔ C.done.testBit j = true ∨ j = e := fun j => by
    rw [testBit_add]
    simp only [Bool.or_eq_true, decide_eq_true_eq]
    exact or_congr Iff.rfl eq_comm
  have ne : ∀ j, C.done.testBit j = true → j ≠ e := fun j h e' => hD (e' ▸ h)
  have hc : cx.le cx' := hx.le A.mem.fresh
  obtain ⟨p1, p2⟩ := putT_ok hp
  have tmps : ∀ t u, (o.dst ≠ some t) → a.tmps[t]? = some u → (a.put o.dst val).tmps[t]? = some u := fun t u hd hu' => by
    cases hdst : o.dst with
    | none => exact hu'
    | some d =>
      simp only [Act.put]
      rw [Array.getElem?_setIfInBounds_ne (fun e' => hd (by rw [hdst, e']))]
      exact hu'
  have undone : ∀ j, (Nat.lor C.done (2 ^ e)).testBit j = true → ¬ Ls (listed.setIfInBounds e true) j → C.done.testBit j = true ∧ ¬ Ls listed j := fun j h1 h2 => by
    obtain ⟨g1, g2⟩ := nkey j h2
    rcases (dn j).1 h1 with h | h
    · exact ⟨h, g2⟩
    · exact absurd h g1
  refine
    { size := by simp [A.size], sub := fun j hj => (dn j).2 ?_, down := fun j oj hj hoj e' he' hb' => ?_, doneLt := fun j hj => ?_, doneDown := fun j k hj hb' => ?_, effDone := fun j oj h1 h2 h3 => ?_, effAll := fun j oj h1 h2 => ?_,
      k1 := fun j oj d h1 h2 h3 => ?_, k2 := fun t ht => ?_, k5 := fun j oj h1 h2 h3 t ht x hx' => ?_, fact := fun j oj h1 h2 h3 => ?_, ids := fun j k oj ok h1 h2 h3 h4 => A.ids j k oj ok (undone j h1 h3).1 (undone k h2 h4).1 (undone j h1 h3).2 (undone k h2 h4).2,
      t1 := fun j oj d h1 h2 h3 => ?_, t2 := fun t x hn' hs => ?_, tsz := ?_, defers := ?_, mem := hS, gl := A.gl.mono hc, ext := A.ext.trans A.next hx, next := Nat.le_trans A.next hn, still := fun j h1 h2 => ?_ }
  · rcases (key j).1 hj with h | h
    · exact .inr h
    · exact .inl (A.sub j h)
  · rcases (key j).1 hj with rfl | h
    · rw [ho] at hoj
      cases hoj
      exact (key e'.on).2 (.inr (hr e' he' hb'))
    · exact (key e'.on).2 (.inr (A.down j oj h hoj e' he' hb'))
  · rcases (dn j).1 hj with h | rfl
    · exact A.doneLt j h
    · exact hi
  · refine (dn k).2 (.inl ?_)
    rcases (dn j).1 hj with h | rfl
    · exact A.doneDown j k h hb'
    · obtain ⟨b', h1, h2⟩ := hb'
      rw [hb] at h1
      cases h1
      exact within_ok hin k h2
  · rcases (dn j).1 h1 with h | rfl
    · exact (key j).2 (.inr (A.effDone j oj h h2 h3))
    · exact (key j).2 (.inl rfl)
  · rcases A.effAll j oj h1 h2 with h | h
    · exact .inl ((dn j).2 (.inl h))
    · cases h with
      | head => exact .inl ((dn e).2 (.inr rfl))
      | tail _ h => exact .inr h
  · rcases (dn j).1 h1 with h | rfl
    · obtain ⟨g1, g2⟩ := A.k1 j oj d h h2 h3
      exact ⟨by rw [p2 d (fun e' => ne j h (F.dst j e oj o d h2 ho h3 e')), g1, upd_ne V v (ne j h)], g2⟩
    · rw [ho] at h2
      cases h2
      obtain ⟨g1, g2⟩ := p1 d h3
      exact ⟨by rw [g1, upd_same], g2⟩
  · show tm'.get t = _
    rw [p2 t (fun e' => ht e o ((dn e).2 (.inr rfl)) ho e')]
    exact A.k2 t (fun j oj h1 h2 => ht j oj ((dn j).2 (.inl h1)) h2)
  · obtain ⟨g1, g2⟩ := undone j h1 h2
    rcases A.k5 j oj g1 g2 h3 t ht x hx' with ⟨k, ok, q1, q2, q3, q4⟩ | g
    · exact .inl ⟨k, ok, q1, q2, q3, by rw [upd_ne V v (ne k (A.doneDown j k g1 q1))]; exact q4⟩
    · exact .inr g
  · obtain ⟨g1, g2⟩ := undone j h1 h2
    have hf := A.fact j oj g1 g2 h3
    rw [upd_ne V v (ne j g1)]
    unfold Fact at hf ⊢
    rcases hf with hf | ⟨hw, hf | ⟨hk, hf, hpd⟩ | ⟨hk, blk, f, q1, q2, q3, q4, q5, q6⟩⟩
    · exact .inl hf
    · exact .inr ⟨hw, .inl hf⟩
    · have hnb : ¬ b.testBit j = true := fun h => g2 (A.readyAhead F ho hr ⟨b, hb, h⟩)
      obtain ⟨q1, q2⟩ := drPend_ok _ _ hl j oj _ _ hpd hnb
      exact .inr ⟨hw, .inr (.inl ⟨hk, q1, q2⟩)⟩
    · exact .inr ⟨hw, .inr (.inr ⟨hk, blk, f, q1, q2, by show h'.get _ = _; rw [hu _ q5 q4]; exact q3, by rw [hx.ρ _ q5]; exact q4, Nat.lt_of_lt_of_le q5 hn, q6⟩)⟩
  · rcases (key j).1 h1 with rfl | h
    · rw [ho] at h2
      cases h2
      have hlt := (p1 d h3).2
      rw [upd_same]
      refine ⟨val, ?_, hv⟩
      rw [h3]
      simp only [Act.put]
      rw [Array.getElem?_setIfInBounds_self_of_lt (Nat.lt_of_lt_of_le hlt A.tsz)]
    · obtain ⟨u, g1, g2⟩ := A.t1 j oj d h h2 h3
      have hje := ne j (A.sub j h)
      rw [upd_ne V v hje]
      exact ⟨u, tmps d u (fun e' => hje (F.dst j e oj o d h2 ho h3 e')) g1, g2.mono hc⟩
  · obtain ⟨u, g1, g2⟩ := A.t2 t x (fun j oj hj => hn' j oj ((key j).2 (.inr hj))) hs
    exact ⟨u, tmps t u (hn' e o ((key e).2 (.inl rfl)) ho) g1, g2.mono hc⟩
  · cases o.dst <;> simp [Act.put, A.tsz]
  · cases o.dst <;> exact A.defers
  · show h'.get j = _
    rw [hu j (Nat.lt_of_lt_of_le h1 A.next) (by rw [A.ext.ρ j h1]; exact h2)]
    exact A.still j h1 h2

include HE HF F in
theorem AI.eff {rec_ : Rec} (HR : RecOk P E w0 B rec_) (A : AI E w0 B ops bef c st a0 (e :: es) V TM ID cx C listed a w) {o : Oper} {b : Nat} (ho : ops[e]? = some o) (hne : isEff E o = true) (hD : ¬ C.done.testBit e = true) (hb : nth bef e = some b)
    (hin : within b C.done = true) (hr : ∀ e' ∈ o.after.toList, Region.binds .any e' = true → Ls listed e'.on) {C1 : Dr} {l : List (Nat × Oper × T AV × AV)} (he : drEff E rec_ st.nt ops.toList e o C = some C1) (hl : drPend E b C1.h C1.pend = some l)
    {K : Act → World → Prop} {Q : Exit → Act → World → Prop} (hK : ∀ v cx' a' w', cx.le cx' → AI E w0 B ops bef c st a0 es (upd V e v) TM ID cx' { C1 with pend := l } (listed.setIfInBounds e true) a' w' → K a' w') : wpOp P ops Q e K a w := by
  have hsee := A.seesEff F hD ho hr
  have hops := hsee.opsR A.gl
  unfold wpOp
  rw [ho]
  simp only
  unfold drEff at he
  split at he
  · cases he
  · rename_i hw
    rw [hsee.wanted hw]
    simp only [Bool.false_eq_true, if_false]
    cases hp : putT st.nt C.tm o.dst (.tup []) with
    | none => rw [hp] at he; cases he
    | some tm' =>
      rw [hp] at he
      cases he
      exact hK _ _ _ _ (Cx.le.refl _) (A.after F ho hne hD hb hin hr (Cx.ext.refl _ _) A.mem (LR.tup (arr := #[]) (LR.nil cx)) (Nat.le_refl _) (fun _ _ _ => rfl) hp hl)
  · rename_i hw
    rw [hsee.wanted hw]
    simp only [if_true]
    refine .inl ?_
    split at he
    · rename_i v h' nx' hmid
      cases hp : putT st.nt C.tm o.dst v with
      | none => rw [hp] at he; cases he
      | some tm' =>
        rw [hp] at he
        cases he
        split at hmid
        · obtain ⟨c', w', val, h1, h2, h3, h4, h5, h6⟩ := evEff_ok HE A.mem o hops hmid
          unfold Oper.wp
          rcases h1 with h1 | ⟨h1, rfl⟩ <;> rw [h1] <;> exact hK _ _ _ _ (h2.le A.mem.fresh) (A.after F ho hne hD hb hin hr h2 h3 h4 h5 h6 hp hl)
        · exact callOp_ok HE HF HR A.mem A.gl hops hmid fun val w' ⟨c', h2, h3, h4, h5, h6⟩ => hK _ _ _ _ (h2.le A.mem.fresh) (A.after F ho hne hD hb hin hr h2 h3 h4 h5 h6 hp hl)
        · cases hmid
    · cases he

end
end Ev
end Go.Proofs.YtfmnoohkllmbmaaGreatDoor
