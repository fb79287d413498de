/- The evaluator: EvPairP. -/
import Derived.Test.YtfmnoohkllmbmaaGreatDoorEvDraw5P
set_option linter.unusedVariables false
set_option linter.unusedSimpArgs false
namespace Go.Proofs.YtfmnoohkllmbmaaGreatDoor
namespace Ev
open Go.RowKit

section
variable {E : Env}

theorem drOne_done {nt : Nat} {all : List Oper} {i : Nat} {o : Oper} {c c' : Dr} (h : drOne E nt all i o c = some c') : c'.done = Nat.lor c.done (2 ^ i) := by
  unfold drOne at h
  split at h
  · cases h
  · cases hp : putT nt c.tm o.dst (.tup []) with
    | none => rw [hp] at h; cases h
    | some tm => rw [hp] at h; cases h; rfl
  · split at h
    · split at h
      · rename_i v _
        cases hp : putT nt c.tm o.dst v with
        | none => rw [hp] at h; cases h
        | some tm => rw [hp] at h; cases h; rfl
      · cases h
    · split at h
      · rename_i v _
        cases hp : putT nt c.tm o.dst v with
        | none => rw [hp] at h; cases h
        | some tm => rw [hp] at h; cases h; rfl
      · cases h
    · split at h
      · rename_i b f _
        cases hp : putT nt c.tm o.dst (f c.nx) with
        | none => rw [hp] at h; cases h
        | some tm => rw [hp] at h; cases h; rfl
      · cases h
    · cases h

theorem drStage_mono {nt : Nat} {all : List Oper} : ∀ (l : List Oper) (bs : List Nat) (k : Nat) (c c' : Dr), drStage E nt all l bs k c = some c' → ∀ j, c.done.testBit j = true → c'.done.testBit j = true
  | [], _, _, c, c', h, j, hj => by simp only [drStage, Option.some.injEq] at h; subst h; exact hj
  | o :: l, [], _, c, c', h, j, hj => by simp [drStage] at h
  | o :: l, b :: bs, k, c, c', h, j, hj => by
    simp only [drStage] at h
    split at h
    · exact drStage_mono l bs (k + 1) c c' h j hj
    · split at h
      · rename_i c1 h1
        refine drStage_mono l bs (k + 1) c1 c' h j ?_
        rw [drOne_done h1, testBit_add, hj]
        rfl
      · cases h

theorem drStage_noop {nt : Nat} {all : List Oper} : ∀ (l : List Oper) (bs : List Nat) (k : Nat) (c c' : Dr), drStage E nt all l bs k c = some c' → c'.done = c.done → c' = c
  | [], _, _, c, c', h, _ => by simp only [drStage, Option.some.injEq] at h; exact h.symm
  | o :: l, [], _, c, c', h, _ => by simp [drStage] at h
  | o :: l, b :: bs, k, c, c', h, hd => by
    simp only [drStage] at h
    split at h
    · exact drStage_noop l bs (k + 1) c c' h hd
    · rename_i hc
      simp only [Bool.or_eq_false_iff] at hc
      have hk := hc.1.2
      rw [bit_eq] at hk
      split at h
      · rename_i c1 h1
        have := drStage_mono l bs (k + 1) c1 c' h k (by rw [drOne_done h1, testBit_add]; simp)
        rw [hd, hk] at this
        cases this
      · cases h

theorem drEffStage_ok {rec_ : Rec} {nt : Nat} {all : List Oper} {bef : List Nat} {e : Nat} {c c'' : Dr} (h : drEffStage E rec_ nt all bef e c = some c'') :
    ∃ b o C1 l, nth bef e = some b ∧ nth all e = some o ∧ within b c.done = true ∧ ¬ c.done.testBit e = true ∧ isEff E o = true ∧ drEff E rec_ nt all e o c = some C1 ∧ drPend E b C1.h C1.pend = some l ∧
      drStage E nt all all bef 0 { C1 with pend := l } = some c'' ∧ drFull E c''.done all bef 0 = true := by
  unfold drEffStage at h
  split at h
  · rename_i b o hb ho
    split at h
    · cases h
    · rename_i hc
      simp only [Bool.and_eq_true, Bool.not_eq_true'] at hc
      obtain ⟨⟨k1, k2⟩, k3⟩ := hc
      rw [bit_eq] at k2
      split at h
      · cases h
      · rename_i C1 h1
        split at h
        · cases h
        · rename_i l hl
          split at h
          · cases h
          · rename_i c2 h2
            split at h
            · cases h
            · rename_i hf
              cases h
              exact ⟨b, o, C1, l, hb, ho, k1, by rw [k2]; simp, k3, h1, hl, h2, hf⟩
  · cases h

/-- a write, block by block -/
def wrB (x : Option ABk) (o : Nat) (xs : List AV) : Option ABk :=
  match cellsOnly xs with
  | false => none
  | true => match x with
    | some (.cells e sz g false cs) => match over cs o xs with
      | some cs' => some (.cells e sz g false cs')
      | none => none
    | _ => none

theorem wr_wrB (h : T ABk) (b o : Nat) (xs : List AV) : wr h b o xs = (wrB (h.get b) o xs).map fun y => h.put (some y) b := by
  unfold wr wrB
  cases hc : cellsOnly xs with
  | false => rfl
  | true =>
    simp only
    cases hh : h.get b with
    | none => rfl
    | some x =>
      cases x with
      | cells e sz g ro cs =>
        cases ro with
        | true => rfl
        | false =>
          simp only
          cases over cs o xs <;> rfl
      | _ => rfl

/-- what a store does to the memory -/
def storeFn (E : Env) (tm : T AV) (all : List Oper) (o : Oper) (h : T ABk) (h' : T ABk) : Prop :=
  (wantedBy tm.get all o = some false ∧ h' = h) ∨ (wantedBy tm.get all o = some true ∧ ∃ t a x b off v y, o.op = .store t a x ∧ evOperand E tm a = some (.ptr b off) ∧ evOperand E tm x = some v ∧ wrB (h.get b) off v.cells = some y ∧ h' = h.put (some y) b)

theorem drEff_store {rec_ : Rec} {nt : Nat} {all : List Oper} {e : Nat} {o : Oper} {c C1 : Dr} {t : Nat} {a x : Operand} (hop : o.op = .store t a x) (hd : o.dst = none) (h : drEff E rec_ nt all e o c = some C1) :
    C1.tm = c.tm ∧ C1.nx = c.nx ∧ storeFn E c.tm all o c.h C1.h := by
  have hk : kindOf E o = .eff := by unfold kindOf; rw [hop]
  unfold drEff at h
  rw [hd] at h
  split at h
  · cases h
  · rename_i hw
    simp only [putT, Option.map_some, Option.some.injEq] at h
    subst h
    exact ⟨rfl, rfl, .inl ⟨hw, rfl⟩⟩
  · rename_i hw
    rw [hk] at h
    simp only at h
    split at h
    · rename_i v h' nx' hev
      simp only [putT, Option.map_some, Option.some.injEq] at h
      subst h
      unfold evEff at hev
      rw [hop] at hev
      simp only at hev
      split at hev
      · rename_i b off vx ti h1 h2 h3
        split at hev
        · rw [wr_wrB] at hev
          cases hy : wrB (c.h.get b) off vx.cells with
          | none => rw [hy] at hev; cases hev
          | some y =>
            rw [hy] at hev
            cases hev
            exact ⟨rfl, rfl, .inr ⟨hw, t, a, x, b, off, vx, y, hop, h1, h2, hy, rfl⟩⟩
        · cases hev
      · cases hev
    · cases h

/-- two stores into two blocks -/
theorem stores_commute {tm : T AV} {all : List Oper} {o1 o2 : Oper} (hap : storesApart E tm o1 o2 = true) {h h1 h2 h12 h21 : T ABk} (a1 : storeFn E tm all o1 h h1) (a2 : storeFn E tm all o2 h h2) (a12 : storeFn E tm all o2 h1 h12) (a21 : storeFn E tm all o1 h2 h21) :
    ∀ i, h12.get i = h21.get i := by
  rcases a1 with ⟨w1, rfl⟩ | ⟨w1, t1, p1, x1, b1, f1, v1, y1, q1, q2, q3, q4, rfl⟩
  · rcases a21 with ⟨_, rfl⟩ | ⟨w1', _⟩
    · rcases a2 with ⟨w2, rfl⟩ | ⟨w2, t2, p2, x2, b2, f2, v2, y2, r1, r2, r3, r4, rfl⟩
      · rcases a12 with ⟨_, rfl⟩ | ⟨w2', _⟩
        · exact fun i => rfl
        · rw [w2] at w2'; cases w2'
      · rcases a12 with ⟨w2', _⟩ | ⟨_, t2', p2', x2', b2', f2', v2', y2', s1, s2, s3, s4, rfl⟩
        · rw [w2] at w2'; cases w2'
        · rw [r1] at s1; cases s1; rw [r2] at s2; cases s2; rw [r3] at s3; cases s3; rw [r4] at s4; cases s4
          exact fun i => rfl
    · rw [w1] at w1'; cases w1'
  · rcases a21 with ⟨w1', _⟩ | ⟨_, t1', p1', x1', b1', f1', v1', y1', q1', q2', q3', q4', rfl⟩
    · rw [w1] at w1'; cases w1'
    · rw [q1] at q1'; cases q1'; rw [q2] at q2'; cases q2'; rw [q3] at q3'; cases q3'
      rcases a2 with ⟨w2, rfl⟩ | ⟨w2, t2, p2, x2, b2, f2, v2, y2, r1, r2, r3, r4, rfl⟩
      · rcases a12 with ⟨_, rfl⟩ | ⟨w2', _⟩
        · rw [q4] at q4'; cases q4'
          exact fun i => rfl
        · rw [w2] at w2'; cases w2'
      · rcases a12 with ⟨w2', _⟩ | ⟨_, t2', p2', x2', b2', f2', v2', y2', s1, s2, s3, s4, rfl⟩
        · rw [w2] at w2'; cases w2'
        · rw [r1] at s1; cases s1; rw [r2] at s2; cases s2; rw [r3] at s3; cases s3
          have hne : b1 ≠ b2 := by
            unfold storesApart at hap
            rw [q1, r1] at hap
            split at hap
            · rename_i heq1 heq2 _ _
              cases heq1
              cases heq2
              rw [q2, r2] at hap
              simp only [Bool.not_eq_true'] at hap
              exact Nat.ne_of_beq_eq_false hap
            · cases hap
          rw [T.get_put, if_neg (Ne.symm hne), r4] at s4
          cases s4
          rw [T.get_put, if_neg hne, q4] at q4'
          cases q4'
          intro i
          simp only [T.get_put]
          by_cases e1 : i = b1
          · by_cases e2 : i = b2
            · exact absurd (e1.symm.trans e2) hne
            · simp [e1, hne]
          · by_cases e2 : i = b2
            · simp [e2, Ne.symm hne]
            · simp [e1, e2]

theorem storesApart_ops {tm : T AV} {o1 o2 : Oper} (h : storesApart E tm o1 o2 = true) : (∃ t a x, o1.op = .store t a x) ∧ o1.dst = none ∧ (∃ t a x, o2.op = .store t a x) ∧ o2.dst = none := by
  unfold storesApart at h
  split at h
  · rename_i h1 h2 h3 h4
    exact ⟨⟨_, _, _, h1⟩, h3, ⟨_, _, _, h2⟩, h4⟩
  · cases h

theorem drPair_ok {rec_ : Rec} {nt : Nat} {all : List Oper} {bef : List Nat} {e1 e2 : Nat} {c c12 : Dr} (h : drPair E rec_ nt all bef e1 e2 c = some c12) :
    ∃ c1 c2 c21, drEffStage E rec_ nt all bef e1 c = some c1 ∧ drEffStage E rec_ nt all bef e2 c = some c2 ∧ drEffStage E rec_ nt all bef e2 c1 = some c12 ∧ drEffStage E rec_ nt all bef e1 c2 = some c21 ∧ drDone all c12 = true ∧ drDone all c21 = true ∧
      (∀ t, c12.tm.get t = c21.tm.get t) ∧ (∀ i, c12.h.get i = c21.h.get i) ∧ c12.nx = c21.nx := by
  unfold drPair at h
  split at h
  · rename_i o1 o2 ho1 ho2
    split at h
    · cases h
    · rename_i hap
      simp only [Bool.and_eq_true] at hap
      have hap := hap.1
      split at h
      · rename_i c1 c2 hc1 hc2
        split at h
        · cases h
        · rename_i hd1
          simp only [Bool.and_eq_true] at hd1
          have d1 := Nat.eq_of_beq_eq_true hd1.1
          have d2 := Nat.eq_of_beq_eq_true hd1.2
          split at h
          · rename_i c12' c21 hc12 hc21
            split at h
            · rename_i hd2
              cases h
              simp only [Bool.and_eq_true] at hd2
              obtain ⟨⟨⟨e12, e21⟩, k1⟩, k2⟩ := hd2
              have e12 := Nat.eq_of_beq_eq_true e12
              have e21 := Nat.eq_of_beq_eq_true e21
              refine ⟨c1, c2, c21, hc1, hc2, hc12, hc21, k1, k2, ?_⟩
              -- each of the four is the effect alone
              have one : ∀ (e : Nat) (o : Oper) (x y : Dr), nth all e = some o → (∃ t a x, o.op = .store t a x) → o.dst = none → drEffStage E rec_ nt all bef e x = some y → y.done = Nat.lor x.done (2 ^ e) → y.tm = x.tm ∧ y.nx = x.nx ∧ storeFn E x.tm all o x.h y.h := by
                intro e o x y ho ⟨t, a, v, hop⟩ hdst hs hdn
                obtain ⟨b, o', C1, l, _, ho', _, _, _, g1, g2, g3, _⟩ := drEffStage_ok hs
                rw [ho] at ho'
                cases ho'
                obtain ⟨q1, q2, q3⟩ := drEff_store hop hdst g1
                have hC1 : C1.done = Nat.lor x.done (2 ^ e) := by
                  unfold drEff at g1
                  rw [hdst] at g1
                  split at g1
                  · cases g1
                  · simp only [putT, Option.map_some, Option.some.injEq] at g1; subst g1; rfl
                  · split at g1
                    · simp only [putT, Option.map_some, Option.some.injEq] at g1; subst g1; rfl
                    · cases g1
                have := drStage_noop _ _ _ _ _ g3 (by rw [hdn]; exact hC1.symm)
                rw [this]
                exact ⟨q1, q2, q3⟩
              obtain ⟨s1, s2, s3, s4⟩ := storesApart_ops hap
              obtain ⟨t1, n1, f1⟩ := one e1 o1 c c1 ho1 s1 s2 hc1 d1
              obtain ⟨t2, n2, f2⟩ := one e2 o2 c c2 ho2 s3 s4 hc2 d2
              obtain ⟨t12, n12, f12⟩ := one e2 o2 c1 c12 ho2 s3 s4 hc12 e12
              obtain ⟨t21, n21, f21⟩ := one e1 o1 c2 c21 ho1 s1 s2 hc21 e21
              rw [t1] at f12
              rw [t2] at f21
              exact ⟨fun t => by rw [t12, t1, t21, t2], stores_commute hap f1 f2 f12 f21, by rw [n12, n1, n21, n2]⟩
            · cases h
          · cases h
      · cases h
  · cases h

end
end Ev
end Go.Proofs.YtfmnoohkllmbmaaGreatDoor
