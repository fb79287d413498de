/- The evaluator: EvInst. -/
import Derived.Test.YtfmnoohkllmbmaaGreatDoorEvTop
set_option linter.unusedVariables false
set_option linter.unusedSimpArgs false
namespace Go.Proofs.YtfmnoohkllmbmaaGreatDoor
namespace Ev
open Go.RowKit

/-! ### Tables -/
/-- what holds of all that a table has -/
def T.chk {α : Type} (f : Nat → α → Bool) : T α → Nat → Nat → Bool
  | .leaf, _, _ => true
  | .node l v r, a, b => match (match v with | some x => f b x | none => true) with
    | true => match T.chk f l (2 * a) (a + b) with
      | true => T.chk f r (2 * a) (2 * a + b)
      | false => false
    | false => false

theorem half {k : Nat} (h : k ≠ 0) : (k % 2 = 1 → k = 2 * (k / 2) + 1) ∧ (k % 2 ≠ 1 → k = 2 * (k / 2 - 1) + 2) := by omega

theorem T.chk_ok {α : Type} {f : Nat → α → Bool} : ∀ (t : T α) (a b k : Nat) (x : α), T.chk f t a b = true → t.get k = some x → f (a * k + b) x = true
  | .leaf, a, b, k, x, _, h => by cases h
  | .node l v r, a, b, k, x, hc, h => by
    simp only [T.chk] at hc
    split at hc
    · rename_i h1
      split at hc
      · rename_i h2
        simp only [T.get] at h
        split at h
        · rename_i hk
          have hk := Nat.eq_of_beq_eq_true hk
          subst hk
          subst h
          simpa using h1
        · rename_i hk
          have hk := Nat.ne_of_beq_eq_false hk
          split at h
          · rename_i hp
            have := T.chk_ok l _ _ _ x h2 h
            have e := (half hk).1 (Nat.eq_of_beq_eq_true hp)
            have e2 : a * k + b = 2 * a * (k / 2) + (a + b) := by
              conv => lhs; rw [e]
              rw [Nat.mul_add, Nat.mul_one, ← Nat.mul_assoc, Nat.mul_comm a 2]; omega
            rw [e2]; exact this
          · rename_i hp
            have := T.chk_ok r _ _ _ x hc h
            have e := (half hk).2 (Nat.ne_of_beq_eq_false hp)
            have e2 : a * k + b = 2 * a * (k / 2 - 1) + (2 * a + b) := by
              conv => lhs; rw [e]
              rw [Nat.mul_add, ← Nat.mul_assoc, Nat.mul_comm a 2]; omega
            rw [e2]; exact this
      · cases hc
    · cases hc

/-- the table of a function's values -/
def T.tab {α : Type} (g : Nat → Option α) : Nat → Nat → Nat → T α
  | 0, _, _ => .leaf
  | d + 1, a, b => .node (T.tab g d (2 * a) (a + b)) (g b) (T.tab g d (2 * a) (2 * a + b))

theorem T.tab_ok {α : Type} {g : Nat → Option α} : ∀ (d a b k : Nat) (x : α), (T.tab g d a b).get k = some x → g (a * k + b) = some x
  | 0, a, b, k, x, h => by cases h
  | d + 1, a, b, k, x, h => by
    simp only [T.tab, T.get] at h
    split at h
    · rename_i hk
      have hk := Nat.eq_of_beq_eq_true hk
      subst hk
      simpa using h
    · rename_i hk
      have hk := Nat.ne_of_beq_eq_false hk
      split at h
      · rename_i hp
        have := T.tab_ok d _ _ _ x h
        have e := (half hk).1 (Nat.eq_of_beq_eq_true hp)
        have e2 : a * k + b = 2 * a * (k / 2) + (a + b) := by
          conv => lhs; rw [e]
          rw [Nat.mul_add, Nat.mul_one, ← Nat.mul_assoc, Nat.mul_comm a 2]; omega
        rw [e2]; exact this
      · rename_i hp
        have := T.tab_ok d _ _ _ x h
        have e := (half hk).2 (Nat.ne_of_beq_eq_false hp)
        have e2 : a * k + b = 2 * a * (k / 2 - 1) + (2 * a + b) := by
          conv => lhs; rw [e]
          rw [Nat.mul_add, ← Nat.mul_assoc, Nat.mul_comm a 2]; omega
        rw [e2]; exact this

/-! ### Types -/
def fieldsB : List (Nat × Nat × Bool) → List Field → Bool
  | [], [] => true
  | (t, o, b) :: l, f :: m => Nat.beq t f.type && Nat.beq o f.offset && (b == (f.name == "_")) && fieldsB l m
  | _, _ => false

theorem fieldsB_ok : ∀ (l : List (Nat × Nat × Bool)) (m : List Field), fieldsB l m = true → l = m.map fun f => (f.type, f.offset, f.name == "_")
  | [], [], _ => rfl
  | [], _ :: _, h => by cases h
  | _ :: _, [], h => by cases h
  | (t, o, b) :: l, f :: m, h => by
    simp only [fieldsB, Bool.and_eq_true] at h
    obtain ⟨⟨⟨h1, h2⟩, h3⟩, h4⟩ := h
    rw [fieldsB_ok l m h4, List.map_cons, Nat.eq_of_beq_eq_true h1, Nat.eq_of_beq_eq_true h2, eq_of_beq h3]

def tdB : TD → TypeDesc → Bool
  | .int k, .int k' => kindEq k k'
  | .bool, .bool => true
  | .str, .string => true
  | .ptr e, .pointer e' => Nat.beq e e'
  | .slice e, .slice e' => Nat.beq e e'
  | .array n e, .array n' e' => Nat.beq n n' && Nat.beq e e'
  | .map k e, .map k' e' => Nat.beq k k' && Nat.beq e e'
  | .chan e, .chan _ e' => Nat.beq e e'
  | .struct fs, .struct fs' => fieldsB fs fs'.toList
  | .iface b, .interface ms => b == ms.isEmpty
  | .func, .func _ _ _ => true
  | .tuple, .tuple _ => true
  | .other, .float _ => true
  | _, _ => false

theorem tdB_ok (a : TD) (b : TypeDesc) (h : tdB a b = true) : TDok a b := by
  cases a <;> cases b <;> simp only [tdB] at h <;> (try (cases h; done)) <;> simp only [TDok]
  · exact (kindEq_eq h).symm
  · exact (Nat.eq_of_beq_eq_true h).symm
  · exact (Nat.eq_of_beq_eq_true h).symm
  · simp only [Bool.and_eq_true] at h
    exact ⟨(Nat.eq_of_beq_eq_true h.1).symm, (Nat.eq_of_beq_eq_true h.2).symm⟩
  · simp only [Bool.and_eq_true] at h
    exact ⟨(Nat.eq_of_beq_eq_true h.1).symm, (Nat.eq_of_beq_eq_true h.2).symm⟩
  · exact (Nat.eq_of_beq_eq_true h).symm
  · exact fieldsB_ok _ _ h
  · exact eq_of_beq h

def isAggTD : TD → Bool
  | .struct _ | .array _ _ => true
  | _ => false
def isStructTD : TD → Bool
  | .struct _ => true
  | _ => false
def fieldsKnown (P : Program) : TypeDesc → Bool
  | .struct fs => fs.toList.all fun f => (P.info? f.type).isSome
  | _ => true

def tiB (P : Program) (t : Nat) (ti : TI) : Bool :=
  match P.info? t, P.underlying t with
  | some i, some d => match i.zero with
    | some z => match cvt z, ti.zeroV with
      | some a, some a' => Nat.beq i.size ti.size && Nat.beq i.bytes ti.bytes && beqL a.cells ti.zero && AV.beq a' a && tdB ti.d d && (ti.agg == isAggTD ti.d) && Nat.beq ti.zero.length ti.size && fieldsKnown P d &&
          (!ti.cmp || (!P.eqGuardType P.depth t && (!isStructTD ti.d || !P.stoodInHeld t)))
      | _, _ => false
    | none => false
  | _, _ => false

theorem tiB_ok {P : Program} {t : Nat} {ti : TI} (h : tiB P t ti = true) : TIok P t ti := by
  unfold tiB at h
  split at h
  · rename_i i d hi hd
    split at h
    · rename_i z hz
      split at h
      · rename_i a a' ha ha'
        simp only [Bool.and_eq_true] at h
        obtain ⟨⟨⟨⟨⟨⟨⟨⟨h1, h2⟩, h3⟩, h4⟩, h5⟩, h6⟩, h7⟩, h8⟩, h9⟩ := h
        refine ⟨⟨i, z, a, hi, Nat.eq_of_beq_eq_true h1, Nat.eq_of_beq_eq_true h2, hz, ha, beqL_eq _ _ h3, by rw [ha', beq_eq _ _ h4]⟩, ⟨d, hd, tdB_ok _ _ h5⟩, ?_, fun hc => ?_, Nat.eq_of_beq_eq_true h7, fun fs hfs f hf => ?_⟩
        · rw [eq_of_beq h6]
          cases ti.d <;> rfl
        · rw [hc] at h9
          simp only [Bool.not_true, Bool.false_or, Bool.and_eq_true, Bool.not_eq_true'] at h9
          refine ⟨h9.1, fun hs => ?_⟩
          have hs' : isStructTD ti.d = true := by
            cases hd' : ti.d <;> rw [hd'] at hs <;> first | rfl | cases hs
          have h92 := h9.2
          rw [hs'] at h92
          simpa using h92
        · rw [hd] at hfs
          cases hfs
          exact List.all_eq_true.1 h8 f hf
      · cases h
    · cases h
  · cases h

theorem EnvOk.of {P : Program} {E : Env} (h : T.chk (tiB P) E.ty 1 0 = true) : EnvOk P E :=
  ⟨fun t ti ht => tiB_ok (by have := T.chk_ok _ _ _ _ _ h ht; simpa using this)⟩

/-! ### Functions -/
def fnB (P : Program) : Nat → Func → Bool := fun _ fn => !(fn.name == "runtime.NumGoroutine")

end Ev
end Go.Proofs.YtfmnoohkllmbmaaGreatDoor
