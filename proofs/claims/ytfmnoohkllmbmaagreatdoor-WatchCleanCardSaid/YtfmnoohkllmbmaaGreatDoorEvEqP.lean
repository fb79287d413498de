/- The evaluator: EvEqP. -/
import Derived.Test.YtfmnoohkllmbmaaGreatDoorEvFill
import Derived.Laws.StructEq
set_option linter.unusedVariables false
set_option linter.unusedSimpArgs false
namespace Go.Proofs.YtfmnoohkllmbmaaGreatDoor
namespace Ev
open Go.RowKit

theorem toNat_inj : ∀ (a b : List UInt8), a.map (·.toNat) = b.map (·.toNat) → a = b
  | [], [], _ => rfl
  | [], _ :: _, h => by simp at h
  | _ :: _, [], h => by simp at h
  | x :: a, y :: b, h => by
    simp only [List.map_cons, List.cons.injEq] at h
    rw [UInt8.toNat_inj.1 h.1, toNat_inj a b h.2]

theorem bytes_beq (a b : ByteArray) : (bytesOfArray a == bytesOfArray b) = (a.toList == b.toList) := by
  rw [ByteArray.toList_eq, ByteArray.toList_eq]
  unfold bytesOfArray
  by_cases h : a.data.toList = b.data.toList
  · rw [h]; simp
  · have h1 : (a.data.toList == b.data.toList) = false := by simpa using h
    have h2 : (a.data.toList.map (·.toNat) == b.data.toList.map (·.toNat)) = false := by
      simp only [beq_eq_false_iff_ne, ne_eq]
      exact fun e => h (toNat_inj _ _ e)
    rw [h1]
    exact h2

theorem boolEq (a b : Bool) : (match a, b with | true, true | false, false => true | _, _ => false) = (a == b) := by cases a <;> cases b <;> rfl

section
variable {P : Program} {E : Env} (HE : EnvOk P E) {c : Cx} (w : World)
include HE

theorem eqFields_ok {r : Nat → AV → AV → Option Bool} {d : Nat}
    (hr : ∀ (t : Nat) (a b : AV) (x y : Value) (z : Bool), VR c a x → VR c b y → r t a b = some z → (Op.equalIn d t x y).run P w = .ok z w)
    {xs ys : List AV} {X Y : Array Value} (hx : LR c xs X.toList) (hy : LR c ys Y.toList) : ∀ (fs : List Field) (z : Bool),
    eqFields E r xs ys (fs.map fun f => (f.type, f.offset, f.name == "_")) = some z → (Op.eqFields d X Y fs).run P w = .ok z w
  | [], z, h => by
    simp only [List.map_nil, eqFields, Option.some.injEq] at h
    subst h
    rfl
  | f :: fs, z, h => by
    simp only [List.map_cons, eqFields] at h
    have ih := eqFields_ok hr hx hy fs
    split at h
    · rename_i hb
      have hn : ¬ (f.name ≠ "_") := by simpa using hb
      simp only [Op.eqFields, hn, if_false]
      exact ih z h
    · rename_i hb
      have hn : f.name ≠ "_" := by simpa using hb
      split at h
      · cases h
      · rename_i ui hu
        have hU := HE.ty _ _ hu
        split at h
        · rename_i a b ha hb'
          obtain ⟨va, h1, r1⟩ := partE_ok hU hx ha w
          obtain ⟨vb, h2, r2⟩ := partE_ok hU hy hb' w
          simp only [Op.eqFields, hn, ne_eq, not_false_eq_true, if_true, Sem.run_bind, h1, h2, Result.andThen_ok]
          split at h
          · rename_i hq
            rw [hr _ a b va vb true r1 r2 hq]
            simp only [Result.andThen_ok]
            have := ih z h
            simpa using this
          · rename_i hq hne
            have hz : z = false := by
              cases z with
              | false => rfl
              | true => exact absurd h (by simpa using hne)
            subst hz
            rw [hr _ a b va vb false r1 r2 h]
            simp
        · cases h

end

section
variable {P : Program} {E : Env} {c : Cx} (w : World)
theorem eqElems_ok {r : Nat → AV → AV → Option Bool} {d : Nat}
    (hr : ∀ (t : Nat) (a b : AV) (x y : Value) (z : Bool), VR c a x → VR c b y → r t a b = some z → (Op.equalIn d t x y).run P w = .ok z w)
    {e : Nat} {ei : TI} (he : TIok P e ei) {xs ys : List AV} {X Y : Array Value} (hx : LR c xs X.toList) (hy : LR c ys Y.toList) : ∀ (m i : Nat) (z : Bool),
    eqElems r e ei xs ys m i = some z →
    (forIn (List.range' i m 1) ((none, ()) : Option Bool × Unit) fun i (_ : Option Bool × Unit) => do
        let a ← part e X (i * ei.size)
        let b ← part e Y (i * ei.size)
        let r ← Op.equalIn d e a b
        if (!r) = true then pure (ForInStep.done (some false, ())) else pure (ForInStep.yield (none, ())) : Sem (Option Bool × Unit)).run P w = .ok (if z then (none, ()) else (some false, ())) w
  | 0, i, z, h => by
    simp only [eqElems, Option.some.injEq] at h
    subst h
    simp
  | m + 1, i, z, h => by
    simp only [eqElems] at h
    have ih := eqElems_ok hr he hx hy m (i + 1)
    split at h
    · rename_i a b ha hb'
      obtain ⟨va, h1, r1⟩ := partE_ok he hx ha w
      obtain ⟨vb, h2, r2⟩ := partE_ok he hy hb' w
      simp only [List.range'_succ, List.forIn_cons, Sem.run_bind, h1, h2, Result.andThen_ok]
      split at h
      · rename_i hq
        rw [hr _ a b va vb true r1 r2 hq]
        simp only [Result.andThen_ok]
        have := ih z h
        simpa using this
      · rename_i hq hne
        have hz : z = false := by
          cases z with
          | false => rfl
          | true => exact absurd h (by simpa using hne)
        subst hz
        rw [hr _ a b va vb false r1 r2 h]
        simp
    · cases h
end

section
variable {P : Program} {E : Env} (HE : EnvOk P E) {c : Cx} (w : World)
include HE

theorem eqStruct_ok {r : Nat → AV → AV → Option Bool} {d t : Nat} {ti : TI} {F : Array Field} (hD : P.underlying t = some (.struct F)) (hT : TIok P t ti) (hd' : ti.d = .struct (F.toList.map fun f => (f.type, f.offset, f.name == "_")))
    (hr : ∀ (t : Nat) (a b : AV) (x y : Value) (z : Bool), VR c a x → VR c b y → r t a b = some z → (Op.equalIn d t x y).run P w = .ok z w) (hc : ti.cmp = true)
    {xs ys : List AV} {X Y : Array Value} (hx : LR c xs X.toList) (hy : LR c ys Y.toList) {z : Bool} (h : eqFields E r xs ys (F.toList.map fun f => (f.type, f.offset, f.name == "_")) = some z) :
    (Op.equalIn (d + 1) t (.agg X) (.agg Y)).run P w = .ok z w := by
  have hfo : P.fieldsOf t = F := by unfold Program.fieldsOf; rw [hD]
  rw [run_equalIn_struct w d t X Y (by rw [hfo]; exact hD) ((hT.cmp hc).2 (by rw [hd']))]
  rw [hfo]
  exact eqFields_ok HE w hr hx hy _ z h

end

section
variable {P : Program} {E : Env} {c : Cx} (w : World)
theorem eqArray_ok {r : Nat → AV → AV → Option Bool} {d t n e : Nat} {ei : TI} (hD : P.underlying t = some (.array n e)) (hE : TIok P e ei)
    (hr : ∀ (t : Nat) (a b : AV) (x y : Value) (z : Bool), VR c a x → VR c b y → r t a b = some z → (Op.equalIn d t x y).run P w = .ok z w)
    {xs ys : List AV} {X Y : Array Value} (hx : LR c xs X.toList) (hy : LR c ys Y.toList) {z : Bool} (h : eqElems r e ei xs ys n 0 = some z) :
    (Op.equalIn (d + 1) t (.agg X) (.agg Y)).run P w = .ok z w := by
  have hl := eqElems_ok w hr hE hx hy _ 0 z h
  simp only [Op.equalIn, Sem.run_bind, run_underlying hD, Result.andThen_ok, hE.size w, Std.Legacy.Range.forIn_eq_forIn_range', Std.Legacy.Range.size, Nat.sub_zero, Nat.add_sub_cancel, Nat.div_one]
  rw [hl]
  cases z <;> rfl
end

section
variable {P : Program} {E : Env} (HE : EnvOk P E) {c : Cx} (w : World)
include HE

set_option maxHeartbeats 2000000 in
theorem evEq_ok : ∀ (f d t : Nat) (a b : AV) (x y : Value) (z : Bool), f ≤ d → VR c a x → VR c b y → evEq E f t a b = some z → (Op.equalIn d t x y).run P w = .ok z w
  | 0, d, t, a, b, x, y, z, _, _, _, h => by simp [evEq] at h
  | f + 1, 0, t, a, b, x, y, z, hd, _, _, h => by omega
  | f + 1, d + 1, t, a, b, x, y, z, hd, hx, hy, h => by
    have ih := fun t a b x y z h1 h2 h3 => evEq_ok f d t a b x y z (by omega) h1 h2 h3
    unfold evEq at h
    unfold eqStep at h
    split at h
    · cases h
    · rename_i ti hti
      have hT := HE.ty _ _ hti
      obtain ⟨D, hD, hk⟩ := hT.desc
      have hU := run_underlying hD w
      split at h <;> (try (rename_i hd'; rw [hd'] at hk; cases D <;> simp only [TDok] at hk)) <;> try cases hx <;> try cases hy <;> try cases h
      case h_1.bool.bool.bool.refl => simp only [Op.equalIn, Sem.run_bind, hU, Result.andThen_ok, Sem.run_pure]; exact congrArg (fun b => Result.ok b w) (boolEq _ _).symm
      case h_2.int.int.int =>
        split at h
        · rename_i hkk
          cases h
          rw [kindEq_eq hkk, eqI_eq]
          simp [Op.equalIn, hU]
        · cases h
      case h_3.string.str.str.refl => simp [Op.equalIn, hU, eqL_eq, bytes_beq, beq_toListBytes]
      case h_22.struct.agg.agg X hl1 hp1 Y hl2 hp2 =>
        subst hk
        have hX : LR c _ X.toList := ⟨hl1, hp1⟩
        have hY : LR c _ Y.toList := ⟨hl2, hp2⟩
        split at h
        · rename_i hc
          exact eqStruct_ok HE w hD hT hd' ih hc hX hY h
        · cases h
      case h_23.array.agg.agg X hl1 hp1 Y hl2 hp2 =>
        obtain ⟨rfl, rfl⟩ := hk
        have hX : LR c _ X.toList := ⟨hl1, hp1⟩
        have hY : LR c _ Y.toList := ⟨hl2, hp2⟩
        split at h
        · rename_i ei hc he
          exact eqArray_ok w hD (HE.ty _ _ he) ih hX hY h
        · cases h
      all_goals simp only [Op.equalIn, Sem.run_bind, hU, Result.andThen_ok, Sem.run_pure, Option.isNone]

end
end Ev
end Go.Proofs.YtfmnoohkllmbmaaGreatDoor
