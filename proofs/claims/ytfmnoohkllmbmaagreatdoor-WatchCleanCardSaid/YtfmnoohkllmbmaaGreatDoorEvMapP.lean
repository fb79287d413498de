/- The evaluator: EvMapP. -/
import Derived.Test.YtfmnoohkllmbmaaGreatDoorEvSlP
set_option linter.unusedVariables false
set_option linter.unusedSimpArgs false
namespace Go.Proofs.YtfmnoohkllmbmaaGreatDoor
namespace Ev
open Go.RowKit

section
variable {P : Program} {E : Env} (HE : EnvOk P E) {c : Cx} (w : World)

include HE in
theorem keyFields_ok {r : Nat → AV → Bool} {n : Nat} {b : Bool} (hr : ∀ (t : Nat) (a : AV) (v : Value), VR c a v → r t a = true → (Instr.checkKey b n t v).run P w = .ok () w)
    {cs : List AV} {arr : Array Value} (hl : LR c cs arr.toList) : ∀ (fs : List Field), keyFields E r cs (fs.map fun f => (f.type, f.offset, f.name == "_")) = true →
    (forIn fs () fun f (_ : Unit) => do
        if f.name ≠ "_" then do
          let x ← part f.type arr f.offset
          Instr.checkKey b n f.type x
          pure (ForInStep.yield ())
        else pure (ForInStep.yield ()) : Sem Unit).run P w = .ok () w
  | [], _ => by simp
  | f :: fs, h => by
    simp only [List.map_cons, keyFields] at h
    have ih := keyFields_ok hr hl fs
    split at h
    · rename_i hb
      have hn : ¬ (f.name ≠ "_") := by simpa using hb
      simp only [List.forIn_cons, hn, if_false, Sem.run_bind, Sem.run_pure, Result.andThen_ok]
      exact ih h
    · rename_i hb
      have hn : f.name ≠ "_" := by simpa using hb
      split at h
      · cases h
      · rename_i ui hu
        have hU := HE.ty _ _ hu
        split at h
        · rename_i a ha
          split at h
          · rename_i hra
            obtain ⟨v, h1, r1⟩ := partE_ok hU hl ha w
            simp only [List.forIn_cons, hn, ne_eq, not_false_eq_true, if_true, Sem.run_bind, h1, Result.andThen_ok, hr _ a v r1 hra, Sem.run_pure]
            have := ih h
            simpa using this
          · cases h
        · cases h

include HE in
theorem keyOk_ok : ∀ (f n t : Nat) (b : Bool) (a : AV) (v : Value), f ≤ n → VR c a v → keyOk E f t a = true → (Instr.checkKey b n t v).run P w = .ok () w
  | 0, n, t, b, a, v, _, _, h => by simp [keyOk] at h
  | f + 1, 0, t, b, a, v, hn, _, h => by omega
  | f + 1, n + 1, t, b, a, v, hn, hv, h => by
    have ih := fun t a v h1 h2 => keyOk_ok f n t b a v (by omega) h1 h2
    unfold keyOk at h
    split at h
    · cases h
    · rename_i ti hti
      obtain ⟨D, hD, hk⟩ := (HE.ty _ _ hti).desc
      have hU := run_underlying hD w
      split at h
      · rename_i fs cs hd
        rw [hd] at hk
        cases D <;> simp only [TDok] at hk
        subst hk
        obtain ⟨arr, rfl, hl⟩ := hv.aggL
        have := keyFields_ok HE w ih hl _ h
        simp only [Instr.checkKey, Sem.run_bind, hU, Result.andThen_ok]
        rw [← Array.forIn_toList]
        erw [this]
        rfl
      · rename_i k hd
        rw [hd] at hk
        cases D <;> simp only [TDok] at hk
        cases v <;> simp only [Instr.checkKey, Sem.run_bind, hU, Result.andThen_ok, Sem.run_pure]
      · rename_i hd
        rw [hd] at hk
        cases D <;> simp only [TDok] at hk
        cases v <;> simp only [Instr.checkKey, Sem.run_bind, hU, Result.andThen_ok, Sem.run_pure]
      · rename_i hd
        rw [hd] at hk
        cases D <;> simp only [TDok] at hk
        cases v <;> simp only [Instr.checkKey, Sem.run_bind, hU, Result.andThen_ok, Sem.run_pure]
      · cases h

/-- the order of the entries makes no difference -/
theorem findE_perm (k : Nat) (key : AV) {es es' : List (AV × AV)} (hp : es'.Perm es) : findE E k key es' = findE E k key es := by
  induction hp with
  | nil => rfl
  | cons x _ ih =>
    obtain ⟨a, v⟩ := x
    simp only [findE, ih]
  | swap x y l =>
    obtain ⟨a, v⟩ := x
    obtain ⟨b, u⟩ := y
    simp only [findE]
    cases evEq E 20 k key a with
    | none => cases evEq E 20 k key b with
      | none => rfl
      | some z => cases z <;> rfl
    | some z =>
      cases evEq E 20 k key b with
      | none => cases z <;> rfl
      | some z' =>
        cases z <;> cases z' <;> simp only []
        · cases findE E k key l with
          | none => rfl
          | some o => cases o <;> rfl
  | trans _ _ ih1 ih2 => rw [ih1, ih2]

/-- what the search finds -/
inductive FR (c : Cx) (es : List MapEntry) : Option AV → Option (Nat × Value) → Prop
  | none : FR c es none none
  | some {a : AV} {i : Nat} {v : Value} (h : VR c a v) : FR c es (some a) (some (i, v))

include HE in
theorem findAsking_ok {k : Nat} {key : AV} {K : Value} (hK : VR c key K) : ∀ (es : List (AV × AV)) (ES : List MapEntry) (i : Nat) (r : Option AV),
    LR c (es.map (·.1)) (ES.map (·.key)) → LR c (es.map (·.2)) (ES.map (·.val)) → findE E k key es = some r →
    ∃ r', (Instr.findAsking k K ES i).run P w = .ok r' w ∧ FR c ES r r'
  | [], ES, i, r, hk, hv, h => by
    have hl := hk.len
    simp only [List.map_nil, List.length_nil, List.length_map] at hl
    obtain rfl : ES = [] := List.eq_nil_of_length_eq_zero hl.symm
    simp only [findE, Option.some.injEq] at h
    subst h
    exact ⟨none, rfl, .none⟩
  | (a, u) :: es, [], i, r, hk, hv, h => by have := hk.len; simp at this
  | (a, u) :: es, e :: ES, i, r, hk, hv, h => by
    simp only [List.map_cons] at hk hv
    have hk0 := hk.head
    have hv0 := hv.head
    simp only [findE] at h
    split at h
    · rename_i hq
      split at h
      · cases h
        have := evEq_ok HE w 20 10000 k key a K e.key true (by decide) hK hk0 hq
        refine ⟨some (i, e.val), ?_, .some hv0⟩
        simp only [Instr.findAsking, Op.equal, Op.maxDepth, Sem.run_bind, this, Result.andThen_ok, if_true, Sem.run_pure]
      · cases h
    · rename_i hq
      have := evEq_ok HE w 20 10000 k key a K e.key false (by decide) hK hk0 hq
      obtain ⟨r', h1, h2⟩ := findAsking_ok hK es ES (i + 1) r hk.tail hv.tail h
      refine ⟨r', ?_, ?_⟩
      · simp only [Instr.findAsking, Op.equal, Op.maxDepth, Sem.run_bind, this, Result.andThen_ok, Bool.false_eq_true, if_false]
        exact h1
      · cases h2 with
        | none => exact .none
        | some hh => exact .some hh
    · cases h

theorem sameNow_ok {D : TypeDesc} {k : Nat} {K x : Value} {b z : Bool} (hD : P.underlying k = some D) (h : Instr.sameNow D K x = some b) (he : (Op.equalIn 10000 k K x).run P w = .ok z w) : b = z := by
  unfold Instr.sameNow at h
  split at h
  · split at h
    · rename_i e
      cases h
      subst e
      rw [run_equalIn_int w 9999 k _ _ _ _ hD] at he
      cases he
      rfl
    · cases h
  · cases h
    rw [run_equalIn_string w 9999 k _ _ hD] at he
    cases he
    rw [beq_toListBytes]
  · cases h
    rw [run_equalIn_bool' w 9999 k _ _ hD] at he
    cases he
    rfl
  · cases h

include HE w in
theorem findNow_ok {D : TypeDesc} {k : Nat} (hD : P.underlying k = some D) {key : AV} {K : Value} (hK : VR c key K) : ∀ (es : List (AV × AV)) (ES : List MapEntry) (i : Nat) (r : Option AV) (r' : Option (Nat × Value)),
    LR c (es.map (·.1)) (ES.map (·.key)) → LR c (es.map (·.2)) (ES.map (·.val)) → findE E k key es = some r → Instr.findNow D K ES i = some r' → FR c ES r r'
  | [], ES, i, r, r', hk, hv, h, h' => by
    have hl := hk.len
    simp only [List.map_nil, List.length_nil, List.length_map] at hl
    obtain rfl : ES = [] := List.eq_nil_of_length_eq_zero hl.symm
    simp only [findE, Option.some.injEq] at h
    subst h
    simp only [Instr.findNow, Option.some.injEq] at h'
    subst h'
    exact .none
  | (a, u) :: es, [], i, r, r', hk, hv, h, h' => by have := hk.len; simp at this
  | (a, u) :: es, e :: ES, i, r, r', hk, hv, h, h' => by
    simp only [List.map_cons] at hk hv
    have hk0 := hk.head
    have hv0 := hv.head
    simp only [findE] at h
    simp only [Instr.findNow] at h'
    split at h
    · rename_i hq
      split at h
      · cases h
        have hE := evEq_ok HE w 20 10000 k key a K e.key true (by decide) hK hk0 hq
        split at h'
        · cases h'; exact .some hv0
        · rename_i hs
          exact absurd (sameNow_ok w hD hs hE) (by decide)
        · cases h'
      · cases h
    · rename_i hq
      have hE := evEq_ok HE w 20 10000 k key a K e.key false (by decide) hK hk0 hq
      split at h'
      · rename_i hs
        exact absurd (sameNow_ok w hD hs hE) (by decide)
      · have h2 := findNow_ok hD hK es ES (i + 1) r r' hk.tail hv.tail h h'
        cases h2 with
        | none => exact .none
        | some hh => exact .some hh
      · cases h'
    · cases h

include HE in
theorem findKey_ok {D : TypeDesc} {k : Nat} (hD : P.underlying k = some D) {key : AV} {K : Value} (hK : VR c key K) {es es' : List (AV × AV)} {ES : List MapEntry} {r : Option AV}
    (hp : es'.Perm es) (hk : LR c (es'.map (·.1)) (ES.map (·.key))) (hv : LR c (es'.map (·.2)) (ES.map (·.val))) (h : findE E k key es = some r) :
    ∃ r', (Instr.findKey k K ES).run P w = .ok r' w ∧ FR c ES r r' := by
  rw [← findE_perm (E := E) k key hp] at h
  have hU := run_underlying hD w
  cases hn : Instr.findNow D K ES 0 with
  | some r' =>
    refine ⟨r', ?_, findNow_ok HE w hD hK es' ES 0 r r' hk hv h hn⟩
    simp only [Instr.findKey, Sem.run_bind, hU, Result.andThen_ok, hn, Sem.run_pure]
  | none =>
    obtain ⟨r', h1, h2⟩ := findAsking_ok HE w hK es' ES 0 r hk hv h
    refine ⟨r', ?_, h2⟩
    simp only [Instr.findKey, Sem.run_bind, hU, Result.andThen_ok, hn]
    exact h1

end
end Ev
end Go.Proofs.YtfmnoohkllmbmaaGreatDoor
