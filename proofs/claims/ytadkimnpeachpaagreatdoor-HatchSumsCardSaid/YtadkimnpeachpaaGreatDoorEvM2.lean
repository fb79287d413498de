/- The evaluator, part 2. -/
import Derived.Test.YtadkimnpeachpaaGreatDoorEvM1
import Derived.Laws.Build
import Derived.Laws.Append
set_option linter.unusedVariables false
set_option linter.unusedSimpArgs false
namespace Go.Proofs.YtadkimnpeachpaaGreatDoor
namespace Ev
open Go.RowKit

section
variable {P : Program} {E : Env} (HE : EnvOk P E) {c : Cx} (w : World)

include HE in
theorem keyFields_ok {r : Nat → AV → Bool} {n : Nat} {b : Bool} (hr : ∀ (t : Nat) (a : AV) (v : Value), VR c a v → r t a = true → (Instr.checkKey b n t v).run P w = .ok () w)
    {cs : List AV} {arr : Array Value} (hl : LR c cs arr.toList) : ∀ (fs : List Field), keyFields E r cs (fs.map fun f => (f.type, f.offset, f.name == "_")) = true →
    (forIn fs () fun f (_ : Unit) => do
        if f.name ≠ "_" then do
          let x ← part f.type arr f.offset
          Instr.checkKey b n f.type x
          pure (ForInStep.yield ())
        else pure (ForInStep.yield ()) : Sem Unit).run P w = .ok () w
  | [], _ => by simp
  | f :: fs, h => by
    simp only [List.map_cons, keyFields] at h
    have ih := keyFields_ok hr hl fs
    split at h
    · rename_i hb
      have hn : ¬ (f.name ≠ "_") := by simpa using hb
      simp only [List.forIn_cons, hn, if_false, Sem.run_bind, Sem.run_pure, Result.andThen_ok]
      exact ih h
    · rename_i hb
      have hn : f.name ≠ "_" := by simpa using hb
      split at h
      · cases h
      · rename_i ui hu
        have hU := HE.ty _ _ hu
        split at h
        · rename_i a ha
          split at h
          · rename_i hra
            obtain ⟨v, h1, r1⟩ := partE_ok hU hl ha w
            simp only [List.forIn_cons, hn, ne_eq, not_false_eq_true, if_true, Sem.run_bind, h1, Result.andThen_ok, hr _ a v r1 hra, Sem.run_pure]
            have := ih h
            simpa using this
          · cases h
        · cases h

include HE in
theorem keyOk_ok : ∀ (f n t : Nat) (b : Bool) (a : AV) (v : Value), f ≤ n → VR c a v → keyOk E f t a = true → (Instr.checkKey b n t v).run P w = .ok () w
  | 0, n, t, b, a, v, _, _, h => by simp [keyOk] at h
  | f + 1, 0, t, b, a, v, hn, _, h => by omega
  | f + 1, n + 1, t, b, a, v, hn, hv, h => by
    have ih := fun t a v h1 h2 => keyOk_ok f n t b a v (by omega) h1 h2
    unfold keyOk at h
    split at h
    · cases h
    · rename_i ti hti
      obtain ⟨D, hD, hk⟩ := (HE.ty _ _ hti).desc
      have hU := run_underlying hD w
      split at h
      · rename_i fs cs hd
        rw [hd] at hk
        cases D <;> simp only [TDok] at hk
        subst hk
        obtain ⟨arr, rfl, hl⟩ := hv.aggL
        have := keyFields_ok HE w ih hl _ h
        simp only [Instr.checkKey, Sem.run_bind, hU, Result.andThen_ok]
        rw [← Array.forIn_toList]
        erw [this]
        rfl
      · rename_i k hd
        rw [hd] at hk
        cases D <;> simp only [TDok] at hk
        cases v <;> simp only [Instr.checkKey, Sem.run_bind, hU, Result.andThen_ok, Sem.run_pure]
      · rename_i hd
        rw [hd] at hk
        cases D <;> simp only [TDok] at hk
        cases v <;> simp only [Instr.checkKey, Sem.run_bind, hU, Result.andThen_ok, Sem.run_pure]
      · rename_i hd
        rw [hd] at hk
        cases D <;> simp only [TDok] at hk
        cases v <;> simp only [Instr.checkKey, Sem.run_bind, hU, Result.andThen_ok, Sem.run_pure]
      · cases h

/-- the order of the entries makes no difference -/
theorem findE_perm (k : Nat) (key : AV) {es es' : List (AV × AV)} (hp : es'.Perm es) : findE E k key es' = findE E k key es := by
  induction hp with
  | nil => rfl
  | cons x _ ih =>
    obtain ⟨a, v⟩ := x
    simp only [findE, ih]
  | swap x y l =>
    obtain ⟨a, v⟩ := x
    obtain ⟨b, u⟩ := y
    simp only [findE]
    cases evEq E 20 k key a with
    | none => cases evEq E 20 k key b with
      | none => rfl
      | some z => cases z <;> rfl
    | some z =>
      cases evEq E 20 k key b with
      | none => cases z <;> rfl
      | some z' =>
        cases z <;> cases z' <;> simp only []
        · cases findE E k key l with
          | none => rfl
          | some o => cases o <;> rfl
  | trans _ _ ih1 ih2 => rw [ih1, ih2]

/-- what the search finds -/
inductive FR (c : Cx) (es : List MapEntry) : Option AV → Option (Nat × Value) → Prop
  | none : FR c es none none
  | some {a : AV} {i : Nat} {v : Value} (h : VR c a v) : FR c es (some a) (some (i, v))

include HE in
theorem findAsking_ok {k : Nat} {key : AV} {K : Value} (hK : VR c key K) : ∀ (es : List (AV × AV)) (ES : List MapEntry) (i : Nat) (r : Option AV),
    LR c (es.map (·.1)) (ES.map (·.key)) → LR c (es.map (·.2)) (ES.map (·.val)) → findE E k key es = some r →
    ∃ r', (Instr.findAsking k K ES i).run P w = .ok r' w ∧ FR c ES r r'
  | [], ES, i, r, hk, hv, h => by
    have hl := hk.len
    simp only [List.map_nil, List.length_nil, List.length_map] at hl
    obtain rfl : ES = [] := List.eq_nil_of_length_eq_zero hl.symm
    simp only [findE, Option.some.injEq] at h
    subst h
    exact ⟨none, rfl, .none⟩
  | (a, u) :: es, [], i, r, hk, hv, h => by have := hk.len; simp at this
  | (a, u) :: es, e :: ES, i, r, hk, hv, h => by
    simp only [List.map_cons] at hk hv
    have hk0 := hk.head
    have hv0 := hv.head
    simp only [findE] at h
    split at h
    · rename_i hq
      split at h
      · cases h
        have := evEq_ok HE w 20 10000 k key a K e.key true (by decide) hK hk0 hq
        refine ⟨some (i, e.val), ?_, .some hv0⟩
        simp only [Instr.findAsking, Op.equal, Op.maxDepth, Sem.run_bind, this, Result.andThen_ok, if_true, Sem.run_pure]
      · cases h
    · rename_i hq
      have := evEq_ok HE w 20 10000 k key a K e.key false (by decide) hK hk0 hq
      obtain ⟨r', h1, h2⟩ := findAsking_ok hK es ES (i + 1) r hk.tail hv.tail h
      refine ⟨r', ?_, ?_⟩
      · simp only [Instr.findAsking, Op.equal, Op.maxDepth, Sem.run_bind, this, Result.andThen_ok, Bool.false_eq_true, if_false]
        exact h1
      · cases h2 with
        | none => exact .none
        | some hh => exact .some hh
    · cases h

theorem sameNow_ok {D : TypeDesc} {k : Nat} {K x : Value} {b z : Bool} (hD : P.underlying k = some D) (h : Instr.sameNow D K x = some b) (he : (Op.equalIn 10000 k K x).run P w = .ok z w) : b = z := by
  unfold Instr.sameNow at h
  split at h
  · split at h
    · rename_i e
      cases h
      subst e
      rw [run_equalIn_int w 9999 k _ _ _ _ hD] at he
      cases he
      rfl
    · cases h
  · cases h
    rw [run_equalIn_string w 9999 k _ _ hD] at he
    cases he
    rw [beq_toListBytes]
  · cases h
    rw [run_equalIn_bool' w 9999 k _ _ hD] at he
    cases he
    rfl
  · cases h

include HE w in
theorem findNow_ok {D : TypeDesc} {k : Nat} (hD : P.underlying k = some D) {key : AV} {K : Value} (hK : VR c key K) : ∀ (es : List (AV × AV)) (ES : List MapEntry) (i : Nat) (r : Option AV) (r' : Option (Nat × Value)),
    LR c (es.map (·.1)) (ES.map (·.key)) → LR c (es.map (·.2)) (ES.map (·.val)) → findE E k key es = some r → Instr.findNow D K ES i = some r' → FR c ES r r'
  | [], ES, i, r, r', hk, hv, h, h' => by
    have hl := hk.len
    simp only [List.map_nil, List.length_nil, List.length_map] at hl
    obtain rfl : ES = [] := List.eq_nil_of_length_eq_zero hl.symm
    simp only [findE, Option.some.injEq] at h
    subst h
    simp only [Instr.findNow, Option.some.injEq] at h'
    subst h'
    exact .none
  | (a, u) :: es, [], i, r, r', hk, hv, h, h' => by have := hk.len; simp at this
  | (a, u) :: es, e :: ES, i, r, r', hk, hv, h, h' => by
    simp only [List.map_cons] at hk hv
    have hk0 := hk.head
    have hv0 := hv.head
    simp only [findE] at h
    simp only [Instr.findNow] at h'
    split at h
    · rename_i hq
      split at h
      · cases h
        have hE := evEq_ok HE w 20 10000 k key a K e.key true (by decide) hK hk0 hq
        split at h'
        · cases h'; exact .some hv0
        · rename_i hs
          exact absurd (sameNow_ok w hD hs hE) (by decide)
        · cases h'
      · cases h
    · rename_i hq
      have hE := evEq_ok HE w 20 10000 k key a K e.key false (by decide) hK hk0 hq
      split at h'
      · rename_i hs
        exact absurd (sameNow_ok w hD hs hE) (by decide)
      · have h2 := findNow_ok hD hK es ES (i + 1) r r' hk.tail hv.tail h h'
        cases h2 with
        | none => exact .none
        | some hh => exact .some hh
      · cases h'
    · cases h

include HE in
theorem findKey_ok {D : TypeDesc} {k : Nat} (hD : P.underlying k = some D) {key : AV} {K : Value} (hK : VR c key K) {es es' : List (AV × AV)} {ES : List MapEntry} {r : Option AV}
    (hp : es'.Perm es) (hk : LR c (es'.map (·.1)) (ES.map (·.key))) (hv : LR c (es'.map (·.2)) (ES.map (·.val))) (h : findE E k key es = some r) :
    ∃ r', (Instr.findKey k K ES).run P w = .ok r' w ∧ FR c ES r r' := by
  rw [← findE_perm (E := E) k key hp] at h
  have hU := run_underlying hD w
  cases hn : Instr.findNow D K ES 0 with
  | some r' =>
    refine ⟨r', ?_, findNow_ok HE w hD hK es' ES 0 r r' hk hv h hn⟩
    simp only [Instr.findKey, Sem.run_bind, hU, Result.andThen_ok, hn, Sem.run_pure]
  | none =>
    obtain ⟨r', h1, h2⟩ := findAsking_ok HE w hK es' ES 0 r hk hv h
    refine ⟨r', ?_, h2⟩
    simp only [Instr.findKey, Sem.run_bind, hU, Result.andThen_ok, hn]
    exact h1

end
end Ev
end Go.Proofs.YtadkimnpeachpaaGreatDoor
/- The evaluator: EvPureP. -/
set_option linter.unusedVariables false
set_option linter.unusedSimpArgs false
namespace Go.Proofs.YtadkimnpeachpaaGreatDoor
namespace Ev
open Go.RowKit

def OpsR (c : Cx) (r : Operand → Option AV) (ρ : Operand → Value) (o : Op) : Prop := ∀ x ∈ o.operands, ∀ a, r x = some a → VR c a (ρ x)

section
variable {P : Program} {E : Env} (HE : EnvOk P E) {c : Cx} {B : Nat} {h : T ABk} {w : World} (H : HR c B h w)

theorem lenOf_ok {a : AV} {v : Value} {n : Nat} (hl : lenOf a = some n) (hv : VR c a v) : (Builtin.lenOf v).run P w = .ok n w := by
  cases hv <;> simp only [lenOf, Option.some.injEq] at hl <;> try cases hl
  all_goals first
    | (simp [Builtin.lenOf]; done)
    | (simp [Builtin.lenOf, bytesOfArray_length])

include H in
theorem evFirst_ok {a : AV} {v : Value} {size n : Nat} {xs : List AV} (he : evFirst h size n a = some xs) (hv : VR c a v) :
    ∃ arr, (Builtin.firstCells size n v).run P w = .ok arr w ∧ (Builtin.firstCells size n v).run P w.drew = .ok arr w.drew ∧ LR c xs arr.toList := by
  cases hv <;> simp only [evFirst] at he <;> try (cases he; done)
  case sl b o n' k b' hb =>
    obtain ⟨ys, h1, h2, h3⟩ := H.rd hb he
    have := run_loadCells_list (P := P) (w := w) ⟨b', o, none⟩ ys h3
    have this' := run_loadCells_list (P := P) (w := w.drew) ⟨b', o, none⟩ ys h3
    rw [h1] at this this'
    exact ⟨ys.toArray, by simp [Builtin.firstCells, this], by simp [Builtin.firstCells, this'], by simpa using h2⟩
  case gsl b l n' sz b' hb hk =>
    obtain ⟨ys, h1, h2, h3⟩ := H.rd hb he
    have := run_loadCells_list (P := P) (w := w) ⟨b', l * sz, none⟩ ys h3
    have this' := run_loadCells_list (P := P) (w := w.drew) ⟨b', l * sz, none⟩ ys h3
    rw [h1] at this this'
    exact ⟨ys.toArray, by simp [Builtin.firstCells, this], by simp [Builtin.firstCells, this'], by simpa using h2⟩
  case esl =>
    split at he
    · rename_i hn
      cases he
      have hn := Nat.eq_of_beq_eq_true hn
      subst hn
      exact ⟨#[], by simp [Builtin.firstCells, loadCells, loadCellsFrom], by simp [Builtin.firstCells, loadCells, loadCellsFrom], LR.nil c⟩
    · cases he
  case nilSl =>
    cases he
    exact ⟨#[], by simp [Builtin.firstCells], by simp [Builtin.firstCells], LR.nil c⟩

include HE H in
theorem evLen_ok {t : Nat} {a r : AV} {v : Value} {ts : Array Nat} {ty : Nat} (ht : ts[0]? = some t) (he : evLen E h t a = some r) (hv : VR c a v) :
    ∃ u, (Builtin.len_ ts ty #[v]).run P w = .ok u w ∧ VR c r u := by
  unfold evLen at he
  split at he
  · cases he
  · rename_i ti hti
    obtain ⟨D, hD, hk⟩ := (HE.ty _ _ hti).desc
    have hU := run_underlying hD w
    split at he <;> (try (rename_i hd; rw [hd] at hk; cases D <;> simp only [TDok] at hk))
    · cases he; cases hv
      rw [bytesOfArray_length]
      exact ⟨.int .i64 (.ofNat _), by simp [Builtin.len_, ht, hU, goInt], .int _ _⟩
    · cases he
      obtain ⟨rfl, rfl⟩ := hk
      exact ⟨.int .i64 (.ofNat _), by simp [Builtin.len_, ht, hU, goInt], .int _ _⟩
    · cases he; cases hv
      exact ⟨.int .i64 0, by simp [Builtin.len_, ht, hU, goInt], .int _ _⟩
    · cases he; cases hv
      exact ⟨.int .i64 0, by simp [Builtin.len_, ht, hU, goInt], .int _ _⟩
    · cases he; cases hv
      exact ⟨.int .i64 (.ofNat _), by simp [Builtin.len_, ht, hU, goInt], .int _ _⟩
    · cases he; cases hv
      exact ⟨.int .i64 (.ofNat _), by simp [Builtin.len_, ht, hU, goInt], .int _ _⟩
    · cases he; cases hv
      exact ⟨.int .i64 0, by simp [Builtin.len_, ht, hU, goInt], .int _ _⟩
    · cases hv
      rename_i b' hb
      split at he
      · rename_i es cl hg
        cases he
        obtain ⟨o, ho, hr⟩ := H.bk _ _ b' hg hb
        cases o <;> simp only [BR] at hr
        rename_i arr cl'
        obtain ⟨_, _, es', hp, hk', _⟩ := hr
        have hl := hk'.len
        simp at hl
        have hpl := hp.length_eq
        refine ⟨.int .i64 (.ofNat es.length), ?_, .int _ _⟩
        simp [Builtin.len_, ht, hU, goInt, getObj, Sem.run, ho]
        omega
      · cases he
    all_goals cases he

theorem VR.boolE {b : Bool} {v : Value} (h : VR c (.bool b) v) : v = .bool b := by cases h; rfl
theorem VR.intE {k : IntKind} {n : Int} {v : Value} (h : VR c (.int k n) v) : v = .int k n := by cases h; rfl
theorem VR.strE {l : List Nat} {v : Value} (h : VR c (.str l) v) : ∃ s, v = .string s ∧ bytesOfArray s = l := by cases h; exact ⟨_, rfl, rfl⟩
theorem VR.ptrE {b o : Nat} {v : Value} (h : VR c (.ptr b o) v) : ∃ b', v = .pointer (some ⟨b', o, none⟩) ∧ c.ρ b = some b' := by cases h; exact ⟨_, rfl, ‹_›⟩
theorem VR.mapE {b : Nat} {v : Value} (h : VR c (.map b) v) : ∃ b', v = .map (some b') ∧ c.ρ b = some b' := by cases h; exact ⟨_, rfl, ‹_›⟩
theorem VR.nilMapE {v : Value} (h : VR c .nilMap v) : v = .map none := by cases h; rfl
theorem VR.slE {b o n k : Nat} {v : Value} (h : VR c (.sl b o n k) v) : ∃ b', v = .slice (some ⟨b', o, none⟩) n k ∧ c.ρ b = some b' := by cases h; exact ⟨_, rfl, ‹_›⟩
theorem VR.gslE {b l n sz : Nat} {v : Value} (h : VR c (.gsl b l n sz) v) : ∃ b', v = .slice (some ⟨b', l * sz, none⟩) n (c.κ b - l) ∧ c.ρ b = some b' ∧ l + n ≤ c.κ b := by
  cases h; exact ⟨_, rfl, ‹_›, ‹_›⟩
theorem VR.funcE {f : Nat} {xs ys : List AV} {v : Value} (h : VR c (.func f xs ys) v) : ∃ xs' ys', v = .func (.func f) xs' ys' ∧ LR c xs xs'.toList ∧ LR c ys ys'.toList := by
  cases h; exact ⟨_, _, rfl, ⟨‹_›, ‹_›⟩, ⟨‹_›, ‹_›⟩⟩
theorem VR.nilSlE {v : Value} (h : VR c .nilSl v) : v = .slice none 0 0 := by cases h; rfl

theorem nth_toList {fs : Array Field} {f u off : Nat} {bl : Bool} (h : nth (fs.toList.map fun f => (f.type, f.offset, f.name == "_")) f = some (u, off, bl)) :
    ∃ x, fs[f]? = some x ∧ x.type = u ∧ x.offset = off := by
  rw [nth_eq, List.getElem?_map] at h
  cases hx : fs.toList[f]? with
  | none => rw [hx] at h; cases h
  | some x =>
    rw [hx] at h
    cases h
    exact ⟨x, by rw [← Array.getElem?_toList]; exact hx, rfl, rfl⟩

include HE in
theorem pure_build {r : Operand → Option AV} {ρ : Operand → Value} {t : Nat} {ps : Array (Nat × Operand)} (hr : OpsR c r ρ (.build t ps)) {a : AV}
    (he : (match evParts r ps.toList, E.ty.get t with
    | some l, some ti => match ti.d with
      | .struct fs => (fillS E fs ti.zero l).map .agg
      | .array _ e => match E.ty.get e with
        | some ei => (fillR ei.size ti.zero l).map .agg
        | none => none
      | _ => none
    | _, _ => none) = some a) :
    ∃ v, (Instr.build t (ps.map fun (i, x) => (i, ρ x))).run P w = .ok v w ∧ VR c a v := by
  split at he
  · rename_i l ti hl hti
    have hT := HE.ty _ _ hti
    obtain ⟨D, hD, hk⟩ := hT.desc
    obtain ⟨i, z, az, hi, hs, hby, hz, hcv, hzc, _⟩ := hT.info
    have hzr : LR c ti.zero z.cells.toList := by rw [← hzc]; exact (cvt_ok c z az hcv).cells
    have hps := evParts_ok ps.toList l (fun x hx => hr x (by simpa [Op.operands] using hx)) hl
    have hpe : (ps.map fun (i, x) => (i, ρ x)).toList = ps.toList.map fun (i, x) => (i, ρ x) := by simp
    split at he
    · rename_i fs hd
      rw [hd] at hk
      cases D <;> simp only [TDok] at hk
      rename_i F
      subst hk
      cases hf : fillS E (F.toList.map fun f => (f.type, f.offset, f.name == "_")) ti.zero l with
      | none => rw [hf] at he; cases he
      | some cs =>
        rw [hf] at he
        cases he
        rw [fillS_eq] at hf
        have hplaces : ∀ (fs : List Field), (∀ f ∈ fs, (P.info? f.type).isSome = true) → ∃ places, fs.mapM (fun f => (P.info? f.type).map fun i => (f.offset, i.size)) = some places ∧
            ∀ i x, plS E (fs.map fun f => (f.type, f.offset, f.name == "_")) i = some x → places[i]? = some x := by
          intro fs
          induction fs with
          | nil => exact fun _ => ⟨[], by simp, fun i x hx => by simp [plS, nth] at hx⟩
          | cons f fs ih =>
            intro hall
            obtain ⟨pl, hpl, hpl'⟩ := ih (fun g hg => hall g (by simp [hg]))
            obtain ⟨i0, hi0⟩ := Option.isSome_iff_exists.1 (hall f (by simp))
            refine ⟨(f.offset, i0.size) :: pl, by simp [List.mapM_cons, hi0, hpl], fun i x hx => ?_⟩
            cases i with
            | zero =>
              simp only [plS, List.map_cons, nth] at hx
              split at hx
              · cases hx
              · rename_i ui hu
                cases hx
                obtain ⟨i1, _, _, h1, h2, _⟩ := (HE.ty _ _ hu).info
                rw [hi0] at h1
                cases h1
                simp [h2]
            | succ i =>
              simp only [plS, List.map_cons, nth] at hx
              simp only [List.getElem?_cons_succ]
              exact hpl' i x (by simpa [plS] using hx)
        obtain ⟨places, hpl, hpl'⟩ := hplaces F.toList (hT.fields F hD)
        obtain ⟨rarr, hrr, hlr⟩ := fillG_ok (place := fun i => places.toArray[i]?) (fun i x hx => by simpa using hpl' i x hx) l _ _ cs z.cells hps hzr hf
        refine ⟨.agg rarr, run_build w t _ rarr ?_, hlr.agg⟩
        unfold Program.built
        rw [hi, hD, hpe]
        simp only [hz, hpl]
        exact hrr
    · rename_i n e hd
      rw [hd] at hk
      cases D <;> simp only [TDok] at hk
      obtain ⟨rfl, rfl⟩ := hk
      split at he
      · rename_i ei hei
        cases hf : fillR ei.size ti.zero l with
        | none => rw [hf] at he; cases he
        | some cs =>
          rw [hf] at he
          cases he
          rw [fillR_eq] at hf
          obtain ⟨rarr, hrr, hlr⟩ := fillG_ok (place := fun i => some (i * ei.size, ei.size)) (fun i x hx => hx) l _ _ cs z.cells hps hzr hf
          refine ⟨.agg rarr, run_build w t _ rarr ?_, hlr.agg⟩
          unfold Program.built
          obtain ⟨i1, _, _, h1, h2, _⟩ := (HE.ty _ _ hei).info
          rw [hi, hD, hpe]
          simp only [hz, h1, h2]
          exact hrr
      · cases he
    · cases he
  · cases he

def foundOr : Option (Nat × Value) → Value → Value
  | some (_, v), _ => v
  | none, z => z

theorem lookAns_none (z : Option AV) (ok : Bool) : lookAns none z ok = none := by cases ok <;> rfl

theorem look_fin {z : Value} {az : AV} {ei : TI} {ok : Bool} {a : AV} {es : List MapEntry} {rr : Option AV} {r' : Option (Nat × Value)} (hzv : ei.zeroV = some az) (hzr : VR c az z) (hf : FR c es rr r')
    (hh : lookAns (some rr) (match ei.agg with | true => some (AV.agg ei.zero) | false => nth ei.zero 0) ok = some a) :
    VR c a (if ok then .tuple #[foundOr r' z, .bool r'.isSome] else foundOr r' z) := by
  have hzv' : (match ei.agg with | true => some (AV.agg ei.zero) | false => nth ei.zero 0) = some az := hzv
  rw [hzv'] at hh
  have two : ∀ (x : AV) (v : Value) (b : Bool), VR c x v → VR c (.tup [x, .bool b]) (.tuple #[v, .bool b]) := fun x v b hx => LR.tup (LR.cons hx (LR.cons (.bool b) (LR.nil c)))
  cases hf with
  | none =>
    cases ok
    · cases hh; exact hzr
    · cases hh; exact two _ _ _ hzr
  | some hv =>
    cases ok
    · cases hh; exact hv
    · cases hh; exact two _ _ _ hv

include HE H in
theorem pure_lookup {r : Operand → Option AV} {ρ : Operand → Value} {t : Nat} {x i : Operand} {ok : Bool} (hr : OpsR c r ρ (.lookup t x i ok)) {a : AV} {o : Oper} (ho : o.op = .lookup t x i ok)
    (he : evPure E r h o = some a) : ∃ v, (Instr.lookup t (ρ x) (ρ i) ok).run P w = .ok v w ∧ VR c a v := by
  obtain ⟨dst, op, type, pos, after, guard⟩ := o
  subst ho
  simp only [evPure] at he
  split at he
  · rename_i v key ti hx hi hti
    have rx := hr x (by simp [Op.operands]) v hx
    have ri := hr i (by simp [Op.operands]) key hi
    have hT := HE.ty _ _ hti
    obtain ⟨D, hD, hk⟩ := hT.desc
    have hU := run_underlying hD w
    split at he
    · rename_i k e hd
      rw [hd] at hk
      cases D <;> simp only [TDok] at hk
      obtain ⟨rfl, rfl⟩ := hk
      rename_i k e
      split at he
      · cases he
      · rename_i ei hei
        have hE := HE.ty _ _ hei
        obtain ⟨z, az, hz, hzr, hzc, hzv⟩ := hE.zeroValue w c
        obtain ⟨De, hDe, hke⟩ := hE.desc
        -- the zero of an element
        -- the table
        have main : ∀ (es : List (AV × AV)) (arr : Array MapEntry) (rr : Option AV) (es' : List (AV × AV)), keyOk E 20 k key = true → findE E k key es = some rr → es'.Perm es →
            LR c (es'.map (·.1)) (arr.toList.map (·.key)) → LR c (es'.map (·.2)) (arr.toList.map (·.val)) →
            ∃ r', (Instr.checkKey arr.isEmpty 10000 k (ρ i)).run P w = .ok () w ∧ (Instr.findKey k (ρ i) arr.toList).run P w = .ok r' w ∧ FR c arr.toList rr r' := by
          intro es arr rr es' hko hf hp h1 h2
          have hck := keyOk_ok HE w 20 10000 k arr.isEmpty key (ρ i) (by decide) ri hko
          have hDk : ∃ Dk, P.underlying k = some Dk := by
            unfold keyOk at hko
            split at hko
            · cases hko
            · rename_i tk htk
              obtain ⟨Dk, hDk, _⟩ := (HE.ty _ _ htk).desc
              exact ⟨Dk, hDk⟩
          obtain ⟨Dk, hDk⟩ := hDk
          obtain ⟨r', g1, g2⟩ := findKey_ok HE w hDk ri hp h1 h2 hf
          exact ⟨r', hck, g1, g2⟩
        have fin : ∀ (arr : Array MapEntry) (rr : Option AV) (r' : Option (Nat × Value)), FR c arr.toList rr r' → lookAns (some rr) (match ei.agg with | true => some (AV.agg ei.zero) | false => nth ei.zero 0) ok = some a →
            VR c a (if ok then .tuple #[foundOr r' z, .bool r'.isSome] else foundOr r' z) := fun arr rr r' hf hh => look_fin hzv hzr hf hh
        cases hko : keyOk E 20 k key with
        | false => rw [hko] at he; dsimp only at he; rw [lookAns_none] at he; cases he
        | true =>
          rw [hko] at he
          dsimp only at he
          generalize ρ x = vx at rx ⊢
          cases rx with
          | nilMap =>
            dsimp only at he
            obtain ⟨r', g1, g2, g3⟩ := main [] #[] none [] hko rfl .nil (LR.nil c) (LR.nil c)
            refine ⟨_, ?_, fin #[] none r' g3 he⟩
            cases g3
            simp only [Instr.lookup, Sem.run_bind, hU, Result.andThen_ok, Sem.run_pure, g1, g2, hz]
            cases ok <;> rfl
          | map hb =>
            rename_i b b'
            dsimp only at he
            cases hg : h.get b with
            | none => rw [hg] at he; dsimp only at he; rw [lookAns_none] at he; cases he
            | some bk =>
              cases bk with
              | map es cl =>
                rw [hg] at he
                dsimp only at he
                cases hf : findE E k key es with
                | none => rw [hf] at he; rw [lookAns_none] at he; cases he
                | some rr =>
                  rw [hf] at he
                  obtain ⟨o, ho, hbr⟩ := H.bk b _ b' hg hb
                  cases o <;> simp only [BR] at hbr
                  rename_i arr cl'
                  obtain ⟨_, _, es', hp, hk1, hk2⟩ := hbr
                  obtain ⟨r', g1, g2, g3⟩ := main es arr rr es' hko hf hp hk1 hk2
                  refine ⟨_, ?_, fin arr rr r' g3 he⟩
                  have hgo : (getObj b').run P w = .ok (.map arr cl') w := by simp [getObj, Sem.run, ho]
                  simp only [Instr.lookup, Sem.run_bind, hU, Result.andThen_ok, Sem.run_pure, hgo, g1, g2]
                  cases g3
                  · simp only [Sem.run_bind, hz, Result.andThen_ok, Sem.run_pure]
                    cases ok <;> rfl
                  · simp only [Sem.run_bind, Result.andThen_ok, Sem.run_pure]
                    cases ok <;> rfl
              | _ => rw [hg] at he; dsimp only at he; rw [lookAns_none] at he; cases he
          | _ => dsimp only at he; rw [lookAns_none] at he; cases he
    · cases he
  · cases he

include HE H in
theorem evPure_ok {r : Operand → Option AV} {ρ : Operand → Value} (o : Oper) (hr : OpsR c r ρ o.op) {a : AV} (he : evPure E r h o = some a) :
    ∃ v, (execOp ρ o).run P w = .ok (.value v) w ∧ VR c a v := by
  have lift : ∀ (s : Sem Value) (v : Value), s.run P w = .ok v w → (do pure (Next.value (← s)) : Sem Next).run P w = .ok (.value v) w := fun s v hs => by
    simp only [Sem.run_bind, hs, Result.andThen_ok, Sem.run_pure]
  obtain ⟨dst, op, type, pos, after, guard⟩ := o
  cases op
  case lookup t x i ok =>
    obtain ⟨v, h1, h2⟩ := pure_lookup HE H hr rfl he
    exact ⟨v, lift _ _ h1, h2⟩
  case build t ps =>
    simp only [evPure] at he
    obtain ⟨v, h1, h2⟩ := pure_build HE (w := w) hr he
    exact ⟨v, lift _ _ h1, h2⟩
  case makeFunc fn first caps =>
    cases fn <;> simp only [evPure] at he <;> try (cases he; done)
    split at he
    · rename_i xs ys hx hy
      cases he
      have h1 := evOperands_ok _ xs (fun x hx => hr x (by simp [Op.operands] at hx ⊢; exact .inl hx)) hx
      have h2 := evOperands_ok _ ys (fun x hx => hr x (by simp [Op.operands] at hx ⊢; exact .inr hx)) hy
      exact ⟨.func (.func _) (first.map ρ) (caps.map ρ), lift _ _ (by simp [Instr.makeFunc]), .func (by simpa using h1.len) (by simpa using h1.at_) (by simpa using h2.len) (by simpa using h2.at_)⟩
    · cases he
  case call cl =>
    obtain ⟨callee, args, argTypes⟩ := cl
    cases callee <;> simp only [evPure] at he <;> try (cases he; done)
    rename_i b
    have hv : execOp ρ ⟨dst, .call ⟨.builtin b, args, argTypes⟩, type, pos, after, guard⟩ = builtin b argTypes type (args.map fun | .const _ => true | _ => false) (args.map ρ) := rfl
    rw [hv]
    split at he
    · cases he
    · rename_i l hl
      have hL := evOperands_ok args.toList l (fun x hx => hr x (by simp [Op.operands, Call.operands]; simpa using hx)) hl
      have hA : (args.map ρ).toList = args.toList.map ρ := by simp
      rw [← hA] at hL
      generalize args.map ρ = vs at hL
      obtain ⟨vs⟩ := vs
      simp only at hL
      have hnt : ∀ t, nth argTypes.toList 0 = some t → argTypes[0]? = some t := fun t ht => by rw [nth_eq, Array.getElem?_toList] at ht; exact ht
      split at he
      · -- len
        rename_i x
        obtain ⟨v, rfl⟩ : ∃ v, vs = [v] := by
          have := hL.len
          match vs, this with
          | [v], _ => exact ⟨v, rfl⟩
        split at he
        · rename_i t ht
          obtain ⟨u, h1, h2⟩ := evLen_ok HE H (ty := type) (hnt t ht) he hL.head
          exact ⟨u, lift _ _ h1, h2⟩
        · cases he
      · -- cap
        rename_i x
        obtain ⟨v, rfl⟩ : ∃ v, vs = [v] := by
          have := hL.len
          match vs, this with
          | [v], _ => exact ⟨v, rfl⟩
        split at he
        · rename_i t ht
          split at he
          · rename_i ti hti
            obtain ⟨D, hD, hk⟩ := (HE.ty _ _ hti).desc
            have hU := run_underlying hD w
            split at he
            · rename_i e b o n k hd
              rw [hd] at hk
              cases D <;> simp only [TDok] at hk
              cases he
              obtain ⟨b', h1, _⟩ := hL.head.slE
              exact ⟨.int .i64 (.ofNat k), lift _ _ (by simp [Builtin.cap_, hnt t ht, hU, h1, goInt]), .int _ _⟩
            · rename_i e hd
              rw [hd] at hk
              cases D <;> simp only [TDok] at hk
              cases he
              have h1 := hL.head.nilSlE
              exact ⟨.int .i64 0, lift _ _ (by simp [Builtin.cap_, hnt t ht, hU, h1, goInt]), .int _ _⟩
            · cases he
          · cases he
        · cases he
      · -- max
        rename_i k x k' y
        obtain ⟨v, u, rfl⟩ : ∃ v u, vs = [v, u] := by
          have := hL.len
          match vs, this with
          | [v, u], _ => exact ⟨v, u, rfl⟩
        split at he
        · cases he
          have h1 := hL.head.intE
          have h2 := hL.tail.head.intE
          subst h1
          subst h2
          refine ⟨_, lift _ _ (run_max_int2 w argTypes type k k' x y), ?_⟩
          rw [leI_eq]
          by_cases hxy : y ≤ x
          · simp only [hxy, decide_true]
            rw [if_neg (by omega)]
            exact .int _ _
          · simp only [hxy, decide_false]
            rw [if_pos (by omega)]
            exact .int _ _
        · cases he
      · -- min
        rename_i k x k' y
        obtain ⟨v, u, rfl⟩ : ∃ v u, vs = [v, u] := by
          have := hL.len
          match vs, this with
          | [v, u], _ => exact ⟨v, u, rfl⟩
        split at he
        · cases he
          have h1 := hL.head.intE
          have h2 := hL.tail.head.intE
          subst h1
          subst h2
          refine ⟨_, lift _ _ (run_min_int2 w argTypes type k k' x y), ?_⟩
          rw [leI_eq]
          by_cases hxy : x ≤ y
          · simp only [hxy, decide_true]
            rw [if_neg (by omega)]
            exact .int _ _
          · simp only [hxy, decide_false]
            rw [if_pos (by omega)]
            exact .int _ _
        · cases he
      · cases he
  all_goals simp only [evPure] at he
  all_goals try (cases he; done)
  case move x => exact ⟨ρ x, rfl, hr x (by simp [Op.operands]) a he⟩
  case assign x => exact ⟨ρ x, rfl, hr x (by simp [Op.operands]) a he⟩
  case pick x y z =>
    split at he
    · rename_i hx
      have h1 := (hr x (by simp [Op.operands]) _ hx).boolE
      exact ⟨ρ y, by simp [execOp, h1, asBool], hr y (by simp [Op.operands]) a he⟩
    · rename_i hx
      have h1 := (hr x (by simp [Op.operands]) _ hx).boolE
      exact ⟨ρ z, by simp [execOp, h1, asBool], hr z (by simp [Op.operands]) a he⟩
    · cases he
  case load t x =>
    split at he
    · rename_i b o ti hx hti
      obtain ⟨b', h1, hb⟩ := (hr x (by simp [Op.operands]) _ hx).ptrE
      obtain ⟨v, h2, h3⟩ := H.loadVar (HE.ty _ _ hti) hb he
      exact ⟨v, lift _ _ (by simp [Instr.loadAt, Instr.sureAddr, h1, h2]), h3⟩
    · cases he
  case nilCheck x =>
    split at he
    · rename_i b o hx
      cases he
      have h0 := hr x (by simp [Op.operands]) _ hx
      obtain ⟨b', h1, hb⟩ := h0.ptrE
      exact ⟨ρ x, by simp [execOp, h1], h0⟩
    · rename_i f xs ys hx
      cases he
      have h0 := hr x (by simp [Op.operands]) _ hx
      obtain ⟨xs', ys', h1, _, _⟩ := h0.funcE
      exact ⟨ρ x, by simp [execOp, h1], h0⟩
    · cases he
  case unOp op t x =>
    split at he
    · rename_i b hx
      cases he
      have h1 := (hr x (by simp [Op.operands]) _ hx).boolE
      exact ⟨.bool (!b), lift _ _ (by simp [Op.unary, h1]), .bool _⟩
    · rename_i k n hx
      cases he
      have h1 := (hr x (by simp [Op.operands]) _ hx).intE
      rw [wrapI_eq]
      exact ⟨.int k (k.wrap (0 - n)), lift _ _ (by simp [Op.unary, h1, Op.intArith]), .int _ _⟩
    · cases he
  case binOp op t x y yt =>
    split at he
    · rename_i va vb hx hy
      obtain ⟨v, h1, h2⟩ := evBin_ok HE w (hr x (by simp [Op.operands]) _ hx) (hr y (by simp [Op.operands]) _ hy) he
      exact ⟨v, lift _ _ h1, h2⟩
    · cases he
  case convert s d x =>
    split at he
    · rename_i va si di hx hsi hdi
      have h0 := hr x (by simp [Op.operands]) _ hx
      obtain ⟨Ds, hDs, hks⟩ := (HE.ty _ _ hsi).desc
      obtain ⟨Dd, hDd, hkd⟩ := (HE.ty _ _ hdi).desc
      have hUs := run_underlying hDs w
      have hUd := run_underlying hDd w
      split at he
      · rename_i k k' n hd
        cases he
        rw [hd] at hkd
        cases Dd <;> simp only [TDok] at hkd
        subst hkd
        have h1 := h0.intE
        rw [wrapI_eq]
        exact ⟨.int _ (IntKind.wrap _ n), lift _ _ (by simp [convert, h1, hUs, hUd, Conv.intToInt]), .int _ _⟩
      · rename_i s hd
        cases he
        rw [hd] at hkd
        cases Dd <;> simp only [TDok] at hkd
        obtain ⟨s', h1, rfl⟩ := h0.strE
        exact ⟨.string s', lift _ _ (by simp [convert, h1, hUs, hUd]), .str⟩
      · cases he
    · cases he
  case makeInterface t x =>
    split at he
    · rename_i va ti hx hti
      have h0 := hr x (by simp [Op.operands]) _ hx
      obtain ⟨D, hD, hk⟩ := (HE.ty _ _ hti).desc
      split at he
      · cases he
      · rename_i hd
        cases he
        refine ⟨.iface t (ρ x), lift _ _ (run_makeInterface w t _ ?_), .iface h0⟩
        unfold Program.concrete
        rw [hD]
        cases hti' : ti.d <;> rw [hti'] at hk <;> cases D <;> simp only [TDok] at hk <;> first | rfl | exact (hd _ hti').elim
    · cases he
  case slice t x lo hi mx =>
    have opt : ∀ (o : Option Operand) (a : Option AV), (∀ q ∈ o, q ∈ (Op.slice t x lo hi mx).operands) →
        (match o with | none => some none | some x => match r x with | some v => some (some v) | none => none) = some a → OR c a (o.map ρ) := by
      intro o a hin h
      cases o with
      | none => cases h; exact .none
      | some y =>
        simp only at h
        split at h
        · rename_i v hv
          cases h
          exact .some (hr y (hin y rfl) v hv)
        · cases h
    split at he
    · rename_i v l hh m hx hl hhi hm
      have o1 := opt lo l (fun y hy => by cases hy; simp [Op.operands]) hl
      have o2 := opt hi hh (fun y hy => by cases hy; simp [Op.operands]) hhi
      have o3 := opt mx m (fun y hy => by cases hy; simp [Op.operands]) hm
      obtain ⟨u, h1, h2⟩ := evSlice_ok HE w o1 o2 o3 (hr x (by simp [Op.operands]) _ hx) he
      exact ⟨u, lift _ _ h1, h2⟩
    · cases he
  case fieldAddr t x f =>
    split at he
    · rename_i b o ti hx hti
      obtain ⟨b', h1, hb⟩ := (hr x (by simp [Op.operands]) _ hx).ptrE
      obtain ⟨D, hD, hk⟩ := (HE.ty _ _ hti).desc
      have hU := run_underlying hD w
      split at he
      · rename_i fs hd
        rw [hd] at hk
        cases D <;> simp only [TDok] at hk
        subst hk
        split at he
        · rename_i u off bl hn
          obtain ⟨y, hy, rfl, rfl⟩ := nth_toList hn
          split at he
          · rename_i ui hui
            split at he
            · cases he
            · rename_i hz
              cases he
              have hz := Nat.ne_of_beq_eq_false hz
              refine ⟨.pointer (some ⟨b', o + y.offset, none⟩), lift _ _ ?_, .ptr hb⟩
              simp [Instr.fieldAt, hU, hy, Instr.sureAddr, h1, fieldPlace, (HE.ty _ _ hui).size w, hz, Addr.add_mid]
          · cases he
        · cases he
      · cases he
    · cases he
  case field t x f =>
    split at he
    · rename_i cs ti hx hti
      obtain ⟨arr, h1, hl⟩ := (hr x (by simp [Op.operands]) _ hx).aggL
      obtain ⟨D, hD, hk⟩ := (HE.ty _ _ hti).desc
      have hU := run_underlying hD w
      split at he
      · rename_i fs hd
        rw [hd] at hk
        cases D <;> simp only [TDok] at hk
        subst hk
        split at he
        · rename_i u off bl hn
          obtain ⟨y, hy, rfl, rfl⟩ := nth_toList hn
          split at he
          · rename_i ui hui
            obtain ⟨v, h2, h3⟩ := partE_ok (HE.ty _ _ hui) hl he w
            exact ⟨v, lift _ _ (by simp [Instr.field, hU, hy, h1, asAgg, h2]), h3⟩
          · cases he
        · cases he
      · cases he
    · cases he
  case indexAddr t x i =>
    split at he
    · rename_i v iv ti hx hi hti
      have rx := hr x (by simp [Op.operands]) _ hx
      have ri := hr i (by simp [Op.operands]) _ hi
      obtain ⟨D, hD, hk⟩ := (HE.ty _ _ hti).desc
      have hU := run_underlying hD w
      split at he
      · rename_i j e b o n k hj hd
        rw [hd] at hk
        cases D <;> simp only [TDok] at hk
        subst hk
        obtain ⟨ik, h2⟩ := natOf_ok hj ri
        obtain ⟨b', h1, hb⟩ := rx.slE
        split at he
        · rename_i ei hlt hei
          cases he
          have hlt : j < n := by simpa [Nat.blt_eq] using hlt
          refine ⟨.pointer (some ⟨b', o + j * ei.size, none⟩), lift _ _ ?_, .ptr hb⟩
          simp [Instr.indexAt, asIntOf, h2, h1, hU, hlt, (HE.ty _ _ hei).size w, Addr.add_mid]
        · cases he
      · rename_i j e b l n sz hj hd
        rw [hd] at hk
        cases D <;> simp only [TDok] at hk
        subst hk
        obtain ⟨ik, h2⟩ := natOf_ok hj ri
        obtain ⟨b', h1, hb, _⟩ := rx.gslE
        split at he
        · rename_i ei hlt hei
          cases he
          have hlt : j < n := by simpa [Nat.blt_eq] using hlt
          refine ⟨.pointer (some ⟨b', l * sz + j * ei.size, none⟩), lift _ _ ?_, .ptr hb⟩
          simp [Instr.indexAt, asIntOf, h2, h1, hU, hlt, (HE.ty _ _ hei).size w, Addr.add_mid]
        · cases he
      · rename_i j n e b o hj hd
        rw [hd] at hk
        cases D <;> simp only [TDok] at hk
        obtain ⟨rfl, rfl⟩ := hk
        obtain ⟨ik, h2⟩ := natOf_ok hj ri
        obtain ⟨b', h1, hb⟩ := rx.ptrE
        split at he
        · rename_i ei hlt hei
          cases he
          rw [Nat.blt_eq] at hlt
          refine ⟨.pointer (some ⟨b', o + j * ei.size, none⟩), lift _ _ ?_, .ptr hb⟩
          simp [Instr.indexAt, Instr.sureAddr, asIntOf, h2, h1, hU, hlt, (HE.ty _ _ hei).size w, Addr.add_mid]
        · cases he
      · cases he
    · cases he
  case index t x i =>
    split at he
    · rename_i v iv ti hx hi hti
      have rx := hr x (by simp [Op.operands]) _ hx
      have ri := hr i (by simp [Op.operands]) _ hi
      obtain ⟨D, hD, hk⟩ := (HE.ty _ _ hti).desc
      have hU := run_underlying hD w
      split at he
      · rename_i j s hj hd
        rw [hd] at hk
        cases D <;> simp only [TDok] at hk
        obtain ⟨ik, h2⟩ := natOf_ok hj ri
        obtain ⟨s', h1, rfl⟩ := rx.strE
        cases hn : nth (bytesOfArray s') j with
        | none => rw [hn] at he; cases he
        | some b =>
          rw [hn] at he
          cases he
          rw [nth_eq] at hn
          unfold bytesOfArray at hn
          rw [List.getElem?_map] at hn
          cases hg : s'.data.toList[j]? with
          | none => rw [hg] at hn; cases hn
          | some u =>
            rw [hg] at hn
            cases hn
            have hlt : j < s'.size := by
              have := (List.getElem?_eq_some_iff.1 hg).1
              simpa using this
            have hu : s'[j]? = some u := by
              rw [getElem?_pos s' j hlt]
              rw [Array.getElem?_toList, Array.getElem?_eq_getElem (show j < s'.data.size from hlt)] at hg
              exact hg
            refine ⟨.int .u8 (.ofNat u.toNat), lift _ _ ?_, .int _ _⟩
            simp [Instr.index, asIntOf, h2, h1, hU, hu]
      · rename_i j n e cs hj hd
        rw [hd] at hk
        cases D <;> simp only [TDok] at hk
        obtain ⟨rfl, rfl⟩ := hk
        obtain ⟨ik, h2⟩ := natOf_ok hj ri
        obtain ⟨arr, h1, hl⟩ := rx.aggL
        split at he
        · rename_i ei hlt hei
          rw [Nat.blt_eq] at hlt
          obtain ⟨v, h3, h4⟩ := partE_ok (HE.ty _ _ hei) hl he w
          refine ⟨v, lift _ _ ?_, h4⟩
          simp [Instr.index, asIntOf, h2, h1, hU, hlt, (HE.ty _ _ hei).size w, h3]
        · cases he
      · cases he
    · cases he
  case extract x i =>
    split at he
    · rename_i vs hx
      obtain ⟨arr, h1, hl⟩ := (hr x (by simp [Op.operands]) _ hx).tupL
      rw [nth_eq] at he
      obtain ⟨v, hv, h3⟩ := hl.get he
      rw [Array.getElem?_toList] at hv
      exact ⟨v, lift _ _ (by simp [Instr.extract, h1, hv]), h3⟩
    · cases he

end
end Ev
end Go.Proofs.YtadkimnpeachpaaGreatDoor
/- The evaluator: EvNewP. -/
set_option linter.unusedVariables false
set_option linter.unusedSimpArgs false
namespace Go.Proofs.YtadkimnpeachpaaGreatDoor
namespace Ev
open Go.RowKit

section
variable {P : Program} {E : Env} (HE : EnvOk P E) {c : Cx} {B : Nat} {w : World}

theorem BR_cells {c : Cx} {κ B b e sz : Nat} {cs : List AV} {arr : Array Value} (hl : LR c cs arr.toList) (hB : B ≤ b) : BR c κ B b (.cells e sz false false cs) (.cells arr e) := by
  have hlen := hl.len
  simp at hlen
  refine ⟨rfl, by omega, fun k a ha => ?_, fun _ => ⟨rfl, hB⟩, fun _ => hlen.symm, fun h => by cases h⟩
  obtain ⟨v, hv, hr⟩ := hl.get ha
  rw [Array.getElem?_toList] at hv
  exact ⟨v, hv, hr⟩

theorem rep_get (zs : List AV) : ∀ (n k : Nat), (rep zs n)[k]? = if k < n * zs.length then zs[k % zs.length]? else none
  | 0, k => by simp [rep]
  | n + 1, k => by
    simp only [rep]
    by_cases hk : k < zs.length
    · rw [List.getElem?_append_left hk, if_pos (by rw [Nat.add_mul]; omega), Nat.mod_eq_of_lt hk]
    · rw [List.getElem?_append_right (by omega), rep_get zs n]
      have hm : (k - zs.length) % zs.length = k % zs.length := by
        rw [Nat.mod_eq_sub_mod (by omega : zs.length ≤ k)]
      rw [hm]
      by_cases h2 : k - zs.length < n * zs.length
      · rw [if_pos h2, if_pos (by rw [Nat.add_mul]; omega)]
      · rw [if_neg h2, if_neg (by rw [Nat.add_mul]; omega)]

theorem rep_ok {zs : List AV} {z : Array Value} {size n : Nat} (hl : LR c zs z.toList) (hs : zs.length = size) :
    LR c (rep zs n) ((Array.range (n * size)).map (fun k => z[k % z.size]!)).toList := by
  have hzl := hl.len
  simp at hzl
  refine ⟨by simp [rep_length, hs], fun k a v ha hv => ?_⟩
  rw [rep_get] at ha
  split at ha
  · rename_i hk
    rw [hs] at hk
    simp [hk] at hv
    subst hv
    have hpos : 0 < z.size := by
      rcases Nat.eq_zero_or_pos z.size with h0 | h0
      · rw [← hs, hzl, h0] at hk; simp at hk
      · exact h0
    have hlt := Nat.mod_lt k hpos
    have : z[k % z.size]! = z[k % z.size] := by simp [getElem!_pos, hlt]
    rw [this]
    refine hl.at_ (k % zs.length) a _ ha ?_
    rw [hzl]
    simp [hlt]
  · cases ha

theorem freeze_new (w : World) (arr : Array Value) (e k : Nat) : (w.alloc (.cells arr e)).freeze ⟨w.heap.size, k, none⟩ 1 = w.alloc (.cells arr e (k, k + 1)) := by
  unfold World.freeze World.alloc
  simp only [Nat.one_ne_zero, if_false]
  congr 1
  apply Array.ext_getElem?
  intro j
  rw [Array.getElem?_modify]
  by_cases hj : j = w.heap.size
  · subst hj; simp
  · rw [if_neg (Ne.symm hj)]
    rw [Array.getElem?_push, Array.getElem?_push, if_neg hj, if_neg hj]

def bytesArr (s : ByteArray) (k : Nat) : Array Value := (s.data.map fun (b : UInt8) => Value.int .u8 b.toNat) ++ Array.replicate (k - s.size) (Value.int .u8 0)

/-- an operation that makes a block -/
def NewOk (P : Program) (c : Cx) (B : Nat) (w : World) (s : Sem Next) (blk : ABk) (f : Nat → AV) : Prop :=
  ∃ obj v w1 κ, s.run P w = .ok (.value v) (w1.alloc obj) ∧ (w1 = w ∨ w1 = w.drew) ∧
    ∀ i, c.ρ i = none → BR (c.add i w.heap.size κ) κ B w.heap.size blk obj ∧ VR (c.add i w.heap.size κ) (f i) v

include HE in
theorem evNew_ok (hB : B ≤ w.heap.size) {r : Operand → Option AV} {ρ : Operand → Value} (o : Oper) (hr : OpsR c r ρ o.op) {blk : ABk} {f : Nat → AV} (he : evNew E r o = some (blk, f)) :
    NewOk P c B w (execOp ρ o) blk f := by
  obtain ⟨dst, op, type, pos, after, guard⟩ := o
  cases op <;> simp only [evNew] at he <;> try (cases he; done)
  case alloc t =>
    split at he
    · rename_i ti hti
      cases he
      obtain ⟨z, az, hz, hzr, hzc, hzv⟩ := (HE.ty _ _ hti).zeroValue w c
      have hs : (zeroValue t).run P w = .ok z w := hz
      refine ⟨.cells z.cells t, .pointer (some ⟨w.heap.size, 0, none⟩), w, 0, ?_, .inl rfl, fun i hi => ⟨?_, .ptr (Cx.add_ρ ..)⟩⟩
      · simp [execOp, Instr.alloc, hs, newVar, newRow]
      · rw [← hzc]
        exact BR_cells (hzr.mono (Cx.le_add _ _ hi)).cells hB
    · cases he
  case box t x =>
    split at he
    · rename_i va hx
      cases he
      have h0 := hr x (by simp [Op.operands]) _ hx
      refine ⟨.cells (ρ x).cells t, .pointer (some ⟨w.heap.size, 0, none⟩), w, 0, ?_, .inl rfl, fun i hi => ⟨?_, .ptr (Cx.add_ρ ..)⟩⟩
      · simp [execOp, Instr.box, newVar, newRow]
      · exact BR_cells (h0.mono (Cx.le_add _ _ hi)).cells hB
    · cases he
  case buildSlice t n ps =>
    split at he
    · rename_i l ti hl hti
      obtain ⟨D, hD, hk⟩ := (HE.ty _ _ hti).desc
      split at he
      · rename_i e hd
        rw [hd] at hk
        cases D <;> simp only [TDok] at hk
        subst hk
        rename_i e
        split at he
        · rename_i ei hei
          have hE := HE.ty _ _ hei
          split at he
          · rename_i hle
            have hle := Nat.le_of_ble_eq_true hle
            split at he
            · rename_i cs hf
              cases he
              have hps := evParts_ok ps.toList l (fun x hx => hr x (by simpa [Op.operands] using hx)) hl
              have hpe : (ps.map fun (i, x) => (i, ρ x)).toList = ps.toList.map fun (i, x) => (i, ρ x) := by simp
              obtain ⟨i0, z, az, hi0, hs0, _, hz0, hcv, hzc, _⟩ := hE.info
              have hzr : LR c ei.zero z.cells.toList := by rw [← hzc]; exact (cvt_ok c z az hcv).cells
              rw [fillR_eq] at hf
              have hbase := rep_ok (n := n) hzr (HE.ty _ _ hei).zlen
              obtain ⟨rarr, hrr, hlr⟩ := fillG_ok (place := fun i => some (i * ei.size, ei.size)) (fun i x hx => hx) l _ _ cs _ hps hbase hf
              have hU := run_underlying hD w
              have hrun : (Instr.buildSlice t n (ps.map fun (i, x) => (i, ρ x))).run P w = .ok (.slice (some ⟨w.heap.size, 0, none⟩) n n) (w.alloc (.cells rarr e)) := by
                by_cases hz : n * ei.size = 0
                · rw [hz] at hrr
                  have h0 : (Array.range 0).map (fun k => z.cells[k % z.cells.size]!) = #[] := by simp
                  rw [h0] at hrr
                  have hrr' : Instr.fill (fun i => some (i * ei.size, ei.size)) #[] (ps.map fun (i, x) => (i, ρ x)).toList = some rarr := by rw [hpe]; exact hrr
                  have h0' : ∀ g : Nat → Value, (Array.range 0).map g = #[] := by simp
                  have hz' : ¬ (0 > 2 ^ 24) := by omega
                  simp only [Instr.buildSlice, Sem.run_bind, hU, Result.andThen_ok, (HE.ty _ _ hei).size w, hz, Sem.run_ite, Sem.run_pure, hz', if_false, if_true, h0', hrr', newRow, run_newObj]
                  rfl
                · refine run_buildSlice w t e n _ rarr i0 z hD hi0 hz0 ?_ ?_ ?_
                  · rw [hs0]; omega
                  · rw [hs0]; exact hz
                  · rw [hs0, hpe]; exact hrr
              refine ⟨.cells rarr e, .slice (some ⟨w.heap.size, 0, none⟩) n n, w, 0, ?_, .inl rfl, fun i hi => ⟨BR_cells (hlr.mono (Cx.le_add _ _ hi)) hB, .sl (Cx.add_ρ ..)⟩⟩
              simp only [execOp, Sem.run_bind, hrun, Result.andThen_ok, Sem.run_pure]
            · cases he
          · cases he
        · cases he
      · cases he
    · cases he
  case convert sT d x =>
    split at he
    · rename_i l si di hx hsi hdi
      have h0 := hr x (by simp [Op.operands]) _ hx
      obtain ⟨s, h1, rfl⟩ := h0.strE
      obtain ⟨Ds, hDs, hks⟩ := (HE.ty _ _ hsi).desc
      obtain ⟨Dd, hDd, hkd⟩ := (HE.ty _ _ hdi).desc
      have hUs := run_underlying hDs w
      have hUd := run_underlying hDd w
      split at he
      · rename_i e hd
        rw [hd] at hkd
        cases Dd <;> simp only [TDok] at hkd
        subst hkd
        rename_i e
        split at he
        · rename_i ei hei
          obtain ⟨De, hDe, hke⟩ := (HE.ty _ _ hei).desc
          have hUe := run_underlying hDe w
          split at he
          · rename_i hde
            rw [hde] at hke
            cases De <;> simp only [TDok] at hke
            subst hke
            cases he
            have hgc := grownCap_ge w s.size 0 e
            have hrun : (Conv.stringToBytes e s).run P w = .ok (.slice (some ⟨w.heap.size, 0, none⟩) s.size (grownCap w s.size 0 e))
                (w.drew.alloc (.cells (bytesArr s (grownCap w s.size 0 e)) e ((bytesArr s (grownCap w s.size 0 e)).size, (bytesArr s (grownCap w s.size 0 e)).size + 1))) := by
              have hq : (Question.appendCap s.size 0 e).forced = false := rfl
              have hch : (choose (.appendCap s.size 0 e)).run P w = .ok (grownCap w s.size 0 e) w.drew := by
                rw [run_choose, hq]
                rfl
              simp only [Conv.stringToBytes, Sem.run_bind, hch, Result.andThen_ok]
              rw [show ((s.data.map fun (b : UInt8) => Value.int .u8 b.toNat) ++ Array.replicate (grownCap w s.size 0 e - s.size) (Value.int .u8 0)) = bytesArr s (grownCap w s.size 0 e) from rfl]
              generalize bytesArr s (grownCap w s.size 0 e) = arr
              simp only [newRow, Sem.run_bind, run_newObj, Result.andThen_ok, Sem.run_pure, markStringish, run_shape]
              have hsh : World.shape? { w.drew with heap := w.drew.heap.push (.cells arr e) } w.drew.heap.size = some (e, arr.size) := by
                show World.shape? (w.drew.alloc (.cells arr e)) w.drew.heap.size = _
                unfold World.shape?
                rw [heap_alloc_new]
              rw [hsh]
              simp only [run_freeze]
              rw [show ({ w.drew with heap := w.drew.heap.push (.cells arr e) } : World) = w.drew.alloc (.cells arr e) from rfl, freeze_new]
              rfl
            refine ⟨.cells (bytesArr s (grownCap w s.size 0 e)) e ((bytesArr s (grownCap w s.size 0 e)).size, (bytesArr s (grownCap w s.size 0 e)).size + 1), .slice (some ⟨w.heap.size, 0, none⟩) s.size (grownCap w s.size 0 e), w.drew, grownCap w s.size 0 e,
              by simp only [execOp, convert, h1, Sem.run_bind, hUs, hUd, hUe, Result.andThen_ok, hrun, Sem.run_pure], .inr rfl, fun i hi => ⟨?_, ?_⟩⟩
            · have hsz : s.data.size = s.size := rfl
              refine ⟨rfl, by simp [bytesOfArray, bytesArr], fun k a ha => ?_, fun h => (by cases h), fun h => (by cases h), fun _ => (by simp [bytesArr, hsz]; omega)⟩
              simp only [List.getElem?_map] at ha
              cases hk : (bytesOfArray s)[k]? with
              | none => rw [hk] at ha; cases ha
              | some b =>
                rw [hk] at ha
                cases ha
                unfold bytesOfArray at hk
                rw [List.getElem?_map] at hk
                cases hk2 : s.data.toList[k]? with
                | none => rw [hk2] at hk; cases hk
                | some u =>
                  rw [hk2] at hk
                  cases hk
                  have hlt : k < s.data.size := by
                    have := (List.getElem?_eq_some_iff.1 hk2).1
                    simpa using this
                  rw [Array.getElem?_toList] at hk2
                  refine ⟨.int .u8 (u.toNat : Int), ?_, .int _ _⟩
                  unfold bytesArr
                  rw [Array.getElem?_append_left (by simpa using hlt), Array.getElem?_map, hk2]
                  rfl
            · rw [bytesOfArray_length]
              have := @VR.gsl (c.add i w.heap.size (grownCap w s.size 0 e)) i 0 s.size 1 w.heap.size (Cx.add_ρ ..) (by rw [Cx.add_κ]; omega)
              rw [Cx.add_κ] at this
              simpa using this
          · cases he
        · cases he
      · cases he
    · cases he
  case makeMap t o =>
    cases o with
    | some x => cases he
    | none =>
      cases he
      refine ⟨.map #[] 0, .map (some w.heap.size), w, 0, ?_, .inl rfl, fun i hi => ⟨⟨rfl, hB, [], .nil, LR.nil _, LR.nil _⟩, .map (Cx.add_ρ ..)⟩⟩
      simp [execOp, Instr.makeMap]
  case makeChan t x =>
    split at he
    · rename_i va ti hx hti
      have h0 := hr x (by simp [Op.operands]) _ hx
      obtain ⟨D, hD, hk⟩ := (HE.ty _ _ hti).desc
      have hU := run_underlying hD w
      split at he
      · rename_i n e hn hd
        rw [hd] at hk
        cases D <;> simp only [TDok] at hk
        subst hk
        obtain ⟨k, h1⟩ := natOf_ok hn h0
        split at he
        · rename_i ei hei
          obtain ⟨i0, hi0, _, hb0⟩ := (HE.ty _ _ hei).typeInfo w
          split at he
          · rename_i hn1 hn2
            cases he
            have hn1 := Nat.le_of_ble_eq_true hn1
            have hn2 := Nat.le_of_ble_eq_true hn2
            refine ⟨.chan n #[] false 0 0 false, .chan (some w.heap.size), w, 0, ?_, .inl rfl, fun i hi => ⟨⟨hB, rfl, rfl, rfl, rfl, rfl, LR.nil _⟩, .chan (Cx.add_ρ ..)⟩⟩
            have hc : ¬ ((n : Int) < 0 ∨ (n : Int) > IntKind.i64.max ∨ ((i0.bytes : Int)) * n > 2 ^ 48 - 112) := by
              rw [hb0]
              have : ((ei.bytes * n : Nat) : Int) ≤ 100000 := by omega
              rw [Int.natCast_mul] at this
              simp
              omega
            simp only [execOp, Instr.makeChan, h1, asInt, asIntOf, Sem.run_bind, Sem.run_pure, Result.andThen_ok, hU, hi0, hc, Sem.run_ite, if_false, run_newObj]
            simp
          · cases he
        · cases he
      · cases he
    · cases he
  case makeSlice t l cp =>
    split at he
    · rename_i lv cv ti hl hc hti
      have h0 := hr l (by simp [Op.operands]) _ hl
      have h0' := hr cp (by simp [Op.operands]) _ hc
      obtain ⟨D, hD, hk⟩ := (HE.ty _ _ hti).desc
      have hU := run_underlying hD w
      split at he
      · rename_i n m e hn hm hd
        rw [hd] at hk
        cases D <;> simp only [TDok] at hk
        subst hk
        rename_i e
        obtain ⟨k, h1⟩ := natOf_ok hn h0
        obtain ⟨k', h1'⟩ := natOf_ok hm h0'
        split at he
        · rename_i ei hei
          have hE := HE.ty _ _ hei
          obtain ⟨i0, hi0, _, hb0⟩ := hE.typeInfo w
          split at he
          · rename_i hn1 hn2
            cases he
            have hn1 := Nat.le_of_ble_eq_true hn1
            have hn2 := Nat.le_of_ble_eq_true hn2
            have hm1 : m ≤ 1000000 := by
              have : m * 1 ≤ m * (ei.size + ei.bytes + 1) := Nat.mul_le_mul_left m (by omega)
              omega
            have hmb : ei.bytes * m ≤ 1000000 := by
              have : m * ei.bytes ≤ m * (ei.size + ei.bytes + 1) := Nat.mul_le_mul_left m (by omega)
              rw [Nat.mul_comm]; omega
            have hwn : IntKind.i64.wrap (n : Int) = (n : Int) := wrap_small .i64 rfl n (by omega)
            have hwm : IntKind.i64.wrap (m : Int) = (m : Int) := wrap_small .i64 rfl m (by omega)
            obtain ⟨z, az, hz, hzr, hzc, _⟩ := hE.zeroValue w c
            have hzr' : LR c ei.zero z.cells.toList := by rw [← hzc]; exact hzr.cells
            have hbase := rep_ok (n := m) hzr' hE.zlen
            have hno : ((decide ((m : Int) < 0) || decide ((i0.bytes : Int) * m > 2 ^ 48)) || decide ((n : Int) < 0) || decide ((n : Int) > m)) = false := by
              have : ((ei.bytes * m : Nat) : Int) ≤ 1000000 := by omega
              rw [Int.natCast_mul] at this
              rw [hb0]
              simp
              omega
            refine ⟨.cells ((Array.range (m * ei.size)).map (fun k => z.cells[k % z.cells.size]!)) e, .slice (some ⟨w.heap.size, 0, none⟩) n m, w, 0, ?_, .inl rfl, fun i hi => ⟨BR_cells (hbase.mono (Cx.le_add _ _ hi)) hB, .sl (Cx.add_ρ ..)⟩⟩
            by_cases hz0 : m * ei.size = 0
            · have h0' : ∀ g : Nat → Value, (Array.range 0).map g = #[] := by simp
              simp only [execOp, Instr.makeSlice, h1, h1', asInt, asIntOf, Sem.run_bind, Sem.run_pure, Result.andThen_ok, hU, hi0, hwn, hwm, hno, Sem.run_ite, Bool.false_eq_true, if_false, run_askRoom, Int.toNat_natCast, hE.size w, hz0, if_true, h0', newRow, run_newObj]
              rfl
            · simp only [execOp, Instr.makeSlice, h1, h1', asInt, asIntOf, Sem.run_bind, Sem.run_pure, Result.andThen_ok, hU, hi0, hwn, hwm, hno, Sem.run_ite, Bool.false_eq_true, if_false, run_askRoom, Int.toNat_natCast, hE.size w, hz0, hz, newRow, run_newObj]
              rfl
          · cases he
        · cases he
      · cases he
    · cases he

end
end Ev
end Go.Proofs.YtadkimnpeachpaaGreatDoor
/- The evaluator: EvEffP. -/
set_option linter.unusedVariables false
set_option linter.unusedSimpArgs false
namespace Go.Proofs.YtadkimnpeachpaaGreatDoor
namespace Ev
open Go.RowKit

theorem cellsOnly_ok {c : Cx} : ∀ {xs : List AV} {ys : List Value}, cellsOnly xs = true → LR c xs ys → ∀ v ∈ ys, v.oneCell' = true
  | [], ys, _, hl, v, hv => by
    have : ys = [] := List.eq_nil_of_length_eq_zero hl.len.symm
    subst this
    cases hv
  | x :: xs, [], _, hl, v, hv => by cases hv
  | x :: xs, y :: ys, h, hl, v, hv => by
    unfold cellsOnly at h
    split at h
    · rename_i hx
      cases hv with
      | head => exact hl.head.isCell hx
      | tail _ hv => exact cellsOnly_ok h hl.tail v hv
    · cases h

/-- only one block is another one -/
structure OnlyAt (b : Nat) (w w' : World) : Prop where
  os : w'.os = w.os
  tape : w'.tape = w.tape
  output : w'.output = w.output
  size : w'.heap.size = w.heap.size
  other : ∀ k, k ≠ b → w'.heap[k]? = w.heap[k]?

theorem OnlyAt.below {b B : Nat} {w0 w w' : World} (h : OnlyAt b w w') (hb : Below B w0 w) (hB : B ≤ b) : Below B w0 w' :=
  ⟨h.os.trans hb.os, h.tape.trans hb.tape, h.output.trans hb.output, by rw [h.size]; exact hb.size, fun k hk => (h.other k (by omega)).trans (hb.block k hk)⟩

theorem onlyAt_setRow (w : World) (b : Nat) (cs : Array Value) : OnlyAt b w (w.setRow b cs) := ⟨rfl, rfl, rfl, by simp, fun k hk => setRow_other w b k cs hk⟩

section
variable {P : Program} {E : Env} (HE : EnvOk P E) {c : Cx} {B : Nat} {h : T ABk} {w : World} (H : HR c B h w)

include H in
/-- cells are stored -/
theorem HR.store {b o b' : Nat} {xs : List AV} {ys : List Value} {h' : T ABk} (hb : c.ρ b = some b') (he : wr h b o xs = some h') (hl : LR c xs ys) :
    ∃ w', (storeCells ⟨b', o, none⟩ ys 0).run P w = .ok () w' ∧ OnlyAt b' w w' ∧ B ≤ b' ∧ HR c B h' w' ∧ (∀ i, i ≠ b → h'.get i = h.get i) ∧
      (∃ e sz g cs cs', h.get b = some (.cells e sz g false cs) ∧ h' = h.put (some (.cells e sz g false cs')) b ∧ over cs o xs = some cs') := by
  unfold wr at he
  split at he
  · cases he
  · rename_i hco
    split at he
    · rename_i e sz g cs hg
      split at he
      · rename_i cs' hov
        cases he
        obtain ⟨arr, fz, hw, hle, hp, hro, hg1, hg2⟩ := H.cells hg hb
        obtain ⟨rfl, hB⟩ := hro rfl
        obtain ⟨o1, o2, o3⟩ := over_some _ _ _ _ hov
        have hll := hl.len
        have hrun := run_storeCells_at P b' o e ys 0 arr w hw (by omega) (cellsOnly_ok hco hl)
        simp only [Nat.add_zero] at hrun
        refine ⟨_, hrun, onlyAt_setRow w b' _, hB, ?_, fun i hi => by rw [T.get_put, if_neg hi], e, sz, g, cs, cs', hg, rfl, hov⟩
        refine H.write hg hb (setRow_heap w b' arr _ e (0, 0) hw) (fun k hk => setRow_other w b' k _ hk) ?_
        have hsz : (arr.toList.take o ++ ys ++ arr.toList.drop (o + ys.length)).toArray.size = arr.size := by simp; omega
        refine ⟨rfl, by omega, fun k a ha => ?_, fun _ => ⟨rfl, hB⟩, fun hg' => by rw [hsz, o1]; exact hg1 hg', fun hg' => by rw [hsz]; exact hg2 hg'⟩
        rw [o3 k] at ha
        have hget : (arr.toList.take o ++ ys ++ arr.toList.drop (o + ys.length)).toArray[k]? = if o ≤ k ∧ k < o + ys.length then ys[k - o]? else arr[k]? := by
          rw [List.getElem?_toArray]
          by_cases h1 : k < o
          · rw [if_neg (by omega), List.append_assoc, List.getElem?_append_left (by simp; omega), List.getElem?_take, if_pos h1, Array.getElem?_toList]
          · by_cases h2 : k < o + ys.length
            · rw [if_pos (by omega), List.append_assoc, List.getElem?_append_right (by simp; omega), List.getElem?_append_left (by simp; omega)]
              congr 1
              simp
              omega
            · rw [if_neg (by omega), List.getElem?_append_right (by simp; omega), List.getElem?_drop]
              rw [← Array.getElem?_toList]
              congr 1
              simp
              omega
        rw [hget]
        by_cases hk : o ≤ k ∧ k < o + xs.length
        · rw [if_pos hk] at ha
          rw [if_pos (by omega)]
          exact hl.get ha
        · rw [if_neg hk] at ha
          rw [if_neg (by omega)]
          exact hp k a ha
      · cases he
    · cases he

include H in
/-- a block goes on under another number -/
theorem HR.renew {i n b : Nat} {x y : ABk} {o : Obj} {w' : World} (hx : h.get i = some x) (hb : c.ρ i = some b) (hn : c.ρ n = none)
    (hw : w'.heap[b]? = some o) (ho : ∀ k, k ≠ b → w'.heap[k]? = w.heap[k]?) (hr : BR (c.add n b (c.κ i)) (c.κ i) B b y o) : HR (c.add n b (c.κ i)) B ((Ev.rm h i).put (some y) n) w' := by
  have hin : i ≠ n := fun e => by rw [e, hn] at hb; cases hb
  have old : ∀ j z, j ≠ n → ((Ev.rm h i).put (some y) n).get j = some z → h.get j = some z ∧ j ≠ i := fun j z hj hz => by
    rw [T.get_put, if_neg hj] at hz
    unfold Ev.rm at hz
    rw [T.get_put] at hz
    split at hz
    · cases hz
    · exact ⟨hz, ‹_›⟩
  have oldρ : ∀ j, j ≠ n → (c.add n b (c.κ i)).ρ j = c.ρ j := fun j hj => by simp [Cx.add, hj]
  refine ⟨fun j z b' hj hjb => ?_, fun j k z z' b' hj hk hjb hkb => ?_⟩
  · by_cases hjn : j = n
    · subst hjn
      rw [Cx.add_ρ] at hjb
      cases hjb
      rw [T.get_put, if_pos rfl] at hj
      cases hj
      rw [Cx.add_κ]
      exact ⟨o, hw, hr⟩
    · obtain ⟨g1, g2⟩ := old j z hjn hj
      rw [oldρ j hjn] at hjb
      have hne : b' ≠ b := fun e => g2 (H.inj j i z x b' g1 hx hjb (e ▸ hb))
      obtain ⟨o', ho', hr'⟩ := H.bk j z b' g1 hjb
      refine ⟨o', (ho b' hne).trans ho', ?_⟩
      have : (c.add n b (c.κ i)).κ j = c.κ j := by simp [Cx.add, hjn]
      rw [this]
      exact hr'.mono (Cx.le_add _ _ hn)
  · by_cases hjn : j = n
    · by_cases hkn : k = n
      · rw [hjn, hkn]
      · subst hjn
        rw [Cx.add_ρ] at hjb
        cases hjb
        obtain ⟨g1, g2⟩ := old k z' hkn hk
        rw [oldρ k hkn] at hkb
        exact absurd (H.inj k i z' x b g1 hx hkb hb) g2
    · by_cases hkn : k = n
      · subst hkn
        rw [Cx.add_ρ] at hkb
        cases hkb
        obtain ⟨g1, g2⟩ := old j z hjn hj
        rw [oldρ j hjn] at hjb
        exact absurd (H.inj j i z x b g1 hx hjb hb) g2
      · obtain ⟨g1, g2⟩ := old j z hjn hj
        obtain ⟨g3, g4⟩ := old k z' hkn hk
        rw [oldρ j hjn] at hjb
        rw [oldρ k hkn] at hkb
        exact H.inj j k z z' b' g1 g3 hjb hkb

end

/-- an operation that writes -/
def EffOk (P : Program) (w0 : World) (B : Nat) (c : Cx) (h : T ABk) (nx : Nat) (w : World) (s : Sem Next) (v : AV) (h' : T ABk) (nx' : Nat) : Prop :=
  ∃ c' w' val, (s.run P w = .ok (.value val) w' ∨ (s.run P w = .ok .skip w' ∧ val = undef)) ∧ c.ext nx c' ∧ SR w0 B c' h' nx' w' ∧ VR c' v val ∧ nx ≤ nx' ∧
    ∀ i, i < nx → c.ρ i = none → h'.get i = h.get i

section
variable {P : Program} {E : Env} (HE : EnvOk P E) {c : Cx} {B : Nat} {h : T ABk} {w w0 : World} {nx : Nat} (S : SR w0 B c h nx w)

theorem T.top_put {h : T ABk} {n i : Nat} {x : Option ABk} (ht : ∀ i x, h.get i = some x → i < n) (hi : i < n) : ∀ j y, (h.put x i).get j = some y → j < n := fun j y hj => by
  rw [T.get_put] at hj
  split at hj
  · rename_i e; omega
  · exact ht j y hj

theorem T.top_rm {h : T ABk} {n i : Nat} (ht : ∀ i x, h.get i = some x → i < n) : ∀ j y, (rm h i).get j = some y → j < n := fun j y hj => by
  unfold rm at hj
  rw [T.get_put] at hj
  split at hj
  · cases hj
  · exact ht j y hj

theorem SR.unused {w0 w : World} {B nx : Nat} {c : Cx} {h : T ABk} (S : SR w0 B c h nx w) : c.ρ nx = none := by
  cases hh : c.ρ nx with
  | none => rfl
  | some b => exact absurd (S.fresh nx b hh) (by omega)

theorem Cx.fresh_add {c : Cx} {nx b κ : Nat} (hf : ∀ i b, c.ρ i = some b → i < nx) : ∀ i b', (c.add nx b κ).ρ i = some b' → i < nx + 1 := by
  intro i b' hi
  by_cases h : i = nx
  · omega
  · have : c.ρ i = some b' := by simpa [Cx.add, h] using hi
    have := hf i b' this
    omega

/-- a new block, at the end of the memory, under the next number -/
theorem SR.new {w0 w w1 : World} {B nx κ : Nat} {c : Cx} {h : T ABk} (S : SR w0 B c h nx w) (hw : w1 = w ∨ w1 = w.drew) {x : ABk} {o : Obj} (hb : BR (c.add nx w.heap.size κ) κ B w.heap.size x o) :
    SR w0 B (c.add nx w.heap.size κ) (h.put (some x) nx) (nx + 1) (w1.alloc o) := by
  have S1 : SR w0 B c h nx w1 := by rcases hw with rfl | rfl; exact S; exact S.drew
  have hs : w1.heap.size = w.heap.size := by rcases hw with rfl | rfl <;> rfl
  rw [← hs] at hb ⊢
  refine ⟨S1.below.alloc S1.size o, by have := S1.size; show B ≤ (w1.heap.push o).size; simp; omega, ?_, Cx.fresh_add S1.fresh, T.top_put (fun i x hi => Nat.lt_succ_of_lt (S1.top i x hi)) (Nat.lt_succ_self _)⟩
  exact (S1.heap.put_free S1.unused (some x)).new S1.unused (by rw [T.get_put, if_pos rfl]) o hb

theorem run_append_any (ts : Array TypeId) (t u ty e : TypeId) (ht0 : ts[0]? = some t) (ht1 : ts[1]? = some u) (i : TypeInfo) (z : Value) (eu : TypeId) (ht : P.underlying t = some (.slice e)) (hu : P.underlying u = some (.slice eu))
    (hi : P.info? e = some i) (hz : i.zero = some z) (base : Option Addr) (sLen sCap m : Nat) (x : Value) (news : Array Value)
    (h1 : (Builtin.lenOf x).run P w = .ok m w) (h2 : (Builtin.firstCells i.size m x).run P w = .ok news w) (h2' : (Builtin.firstCells i.size m x).run P w.drew = .ok news w.drew) :
    (sLen + m ≤ sCap → ∀ w', (match base with | some a => (storeCells (a.add (sLen * i.size)) news.toList).run P w | none => .ok () w) = .ok () w' →
      (Builtin.append_ ts ty #[.slice base sLen sCap, x]).run P w = .ok (.slice base (sLen + m) sCap) w') ∧
    (sCap < sLen + m → (sLen + m) * i.bytes ≤ 140737488355328 → sLen + m ≤ 9223372036854775807 → ∀ olds, (Builtin.firstCells i.size sLen (.slice base sLen sCap)).run P w.drew = .ok olds w.drew →
      (Builtin.append_ ts ty #[.slice base sLen sCap, x]).run P w =
        .ok (.slice (some ⟨w.heap.size, 0, none⟩) (sLen + m) (grownCap w (sLen + m) sCap e)) (w.drew.alloc (.cells (olds ++ news ++ Builtin.zeroCells z.cells (grownCap w (sLen + m) sCap e - (sLen + m))) e))) := by
  have hU : (underlying u).run P w = .ok (.slice eu) w := run_underlying hu w
  refine ⟨fun hfit w' hst => ?_, fun hgr hb h63 olds holds => ?_⟩
  · cases base with
    | none =>
      cases hst
      simp [Builtin.append_, ht0, ht1, run_underlying ht, hU, sizeOf, typeInfo, hi, h1, h2, hfit]
    | some a =>
      simp [Builtin.append_, ht0, ht1, run_underlying ht, hU, sizeOf, typeInfo, hi, h1, h2, hfit, hst]
  · have hn : ¬ (sLen + m ≤ sCap) := by omega
    have h48 := growslice_fits hgr hb
    have h48' : ¬ (281474976710656 < Builtin.nextslicecap (sLen + m) sCap * i.bytes) := by omega
    have h63' : ¬ (9223372036854775807 < ((sLen : Int) + (m : Int))) := by omega
    simp [Builtin.append_, ht0, ht1, run_underlying ht, hU, sizeOf, typeInfo, zeroValue, hi, hz, h1, hn, h63', h48', Question.forced, h2', holds, newRow, grownCap]

end
end Ev
end Go.Proofs.YtadkimnpeachpaaGreatDoor
/- The evaluator: EvEff2P. -/
set_option linter.unusedVariables false
set_option linter.unusedSimpArgs false
namespace Go.Proofs.YtadkimnpeachpaaGreatDoor
namespace Ev
open Go.RowKit

section
variable {P : Program} {E : Env} (HE : EnvOk P E) {c : Cx} {B : Nat} {h : T ABk} {w w0 : World} {nx : Nat} (S : SR w0 B c h nx w)

theorem EffOk.lift {s : Sem Value} {v : AV} {h' : T ABk} {nx' : Nat} {c' : Cx} {w' : World} {val : Value} (hr : s.run P w = .ok val w') (he : c.ext nx c') (hS : SR w0 B c' h' nx' w') (hv : VR c' v val) (hn : nx ≤ nx')
    (hu : ∀ i, i < nx → c.ρ i = none → h'.get i = h.get i) : EffOk P w0 B c h nx w (do pure (Next.value (← s))) v h' nx' :=
  ⟨c', w', val, .inl (by simp only [Sem.run_bind, hr, Result.andThen_ok, Sem.run_pure]), he, hS, hv, hn, hu⟩

theorem rd_len {h : T ABk} {b o n : Nat} {xs : List AV} (he : rd h b o n = some xs) : xs.length = n := by
  unfold rd at he
  split at he
  · exact (sub_some he).2
  · cases he

theorem evFirst_len {h : T ABk} {size m : Nat} {x : AV} {xs : List AV} (hl : lenOf x = some m) (he : evFirst h size m x = some xs) : xs.length = m * size := by
  cases x <;> simp only [lenOf, Option.some.injEq] at hl <;> simp only [evFirst] at he <;> try (cases he; done)
  · exact rd_len he
  · exact rd_len he
  · split at he
    · cases he; rw [← hl]; simp
    · cases he
  · cases he; rw [← hl]; simp

/-- a grown block -/
theorem BR_grown {c : Cx} {κ B b e sz : Nat} {cs : List AV} {arr rest : Array Value} (hl : LR c cs arr.toList) (hs : arr.size + rest.size = κ * sz) (hB : B ≤ b) :
    BR c κ B b (.cells e sz true false cs) (.cells (arr ++ rest) e) := by
  have hlen := hl.len
  simp at hlen
  refine ⟨rfl, by simp; omega, fun k a ha => ?_, fun _ => ⟨rfl, hB⟩, fun h => (by cases h), fun _ => by simpa using hs⟩
  obtain ⟨v, hv, hr⟩ := hl.get ha
  have hk : k < cs.length := (List.getElem?_eq_some_iff.1 ha).1
  rw [Array.getElem?_toList] at hv
  exact ⟨v, by rw [Array.getElem?_append_left (by omega)]; exact hv, hr⟩

include S in
theorem SR.store {b o b' : Nat} {xs : List AV} {ys : List Value} {h' : T ABk} (hb : c.ρ b = some b') (he : wr h b o xs = some h') (hl : LR c xs ys) :
    ∃ w', (storeCells ⟨b', o, none⟩ ys 0).run P w = .ok () w' ∧ SR w0 B c h' nx w' ∧ ∀ i, i < nx → c.ρ i = none → h'.get i = h.get i := by
  obtain ⟨w', h1, h2, h3, h4, h5, _⟩ := S.heap.store (P := P) hb he hl
  refine ⟨w', h1, ⟨h2.below S.below h3, by rw [h2.size]; exact S.size, h4, S.fresh, fun j y hj => ?_⟩, fun i hi hn => h5 i (fun e => ?_)⟩
  · by_cases e : j = b
    · rw [e]; exact S.fresh b b' hb
    · rw [h5 j e] at hj; exact S.top j y hj
  · rw [e, hb] at hn
    cases hn

include S in
theorem evAppend_ok {ts : Array TypeId} {t u ty e eu : TypeId} (ht0 : ts[0]? = some t) (ht1 : ts[1]? = some u) (ht : P.underlying t = some (.slice e)) (hu : P.underlying u = some (.slice eu)) {ei : TI} (hE : TIok P e ei)
    {s x r : AV} {sv xv : Value} {m nx' : Nat} {news : List AV} {h' : T ABk} (hs : VR c s sv) (hx : VR c x xv) (hm : lenOf x = some m) (hf : evFirst h ei.size m x = some news)
    (he : evAppend h nx e ei.size ei.bytes m s news = some (r, h', nx')) : EffOk P w0 B c h nx w (do pure (Next.value (← Builtin.append_ ts ty #[sv, xv]))) r h' nx' := by
  obtain ⟨i, z, az, hi, his, hib, hz, hcv, hzc, _⟩ := hE.info
  have hzl : z.cells.size = ei.size := by
    have := (cvt_ok c z az hcv).cells.len
    rw [hzc, hE.zlen] at this
    simpa using this.symm
  have h1 := lenOf_ok (P := P) (w := w) hm hx
  obtain ⟨narr, h2, h2', hnl⟩ := evFirst_ok (P := P) S.heap hf hx
  rw [← his] at h2 h2'
  have hnlen : narr.size = m * ei.size := by
    have h1 := hnl.len
    rw [evFirst_len hm hf] at h1
    simpa using h1.symm
  have hzc' : ∀ n, (Builtin.zeroCells z.cells n).size = n * ei.size := fun n => by rw [size_zeroCells, hzl]
  unfold evAppend at he
  split at he
  · cases he
  · rename_i hchk
    simp only [Bool.or_eq_false_iff, Bool.not_eq_false'] at hchk
    obtain ⟨hc1, hc2⟩ := hchk
    have hsz : ei.size ≠ 0 := Nat.ne_of_beq_eq_false hc1
    split at he
    · -- nil
      cases hs
      simp only [lenOf] at hc2
      have hc2 := Nat.le_of_ble_eq_true hc2
      obtain ⟨k1, k2⟩ := run_append_any (w := w) ts t u ty e ht0 ht1 i z eu ht hu hi hz none 0 0 m xv narr h1 h2 h2'
      split at he
      · rename_i hm0
        have hm0 := Nat.eq_of_beq_eq_true hm0
        subst hm0
        cases he
        exact EffOk.lift (k1 (Nat.le_refl _) w rfl) (Cx.ext.refl _ _) S .nilSl (Nat.le_refl _) (fun _ _ _ => rfl)
      · rename_i hm0
        have hm0 := Nat.ne_of_beq_eq_false hm0
        cases he
        have hb1 : m * (i.bytes + 1) ≤ 1000000000 := by rw [hib]; simpa using hc2
        have hb2 : m * i.bytes ≤ 1000000000 := Nat.le_trans (Nat.mul_le_mul_left m (by omega)) hb1
        have hb3 : m * 1 ≤ m * (i.bytes + 1) := Nat.mul_le_mul_left m (by omega)
        have hr := k2 (by omega) (by simp; omega) (by omega) #[] (by simp [Builtin.firstCells])
        simp only [Nat.zero_add] at hr
        have hge := grownCap_ge w m 0 e
        refine EffOk.lift hr (Cx.ext_add c nx w.heap.size (grownCap w m 0 e)) (S.new (.inr rfl) (x := .cells e ei.size true false news) ?_) ?_ (by omega) (fun j hj _ => by rw [T.get_put, if_neg (by omega)])
        · simp only [Array.empty_append]
          refine BR_grown (hnl.mono (Cx.le_add _ _ S.unused)) ?_ S.size
          rw [hnlen, hzc', ← Nat.add_mul]
          congr 1
          omega
        · have := @VR.gsl (c.add nx w.heap.size (grownCap w m 0 e)) nx 0 m ei.size w.heap.size (Cx.add_ρ ..) (by rw [Cx.add_κ]; omega)
          rw [Cx.add_κ] at this
          simpa using this
    · -- exact room
      rename_i b o n k
      cases hs
      rename_i b' hb
      simp only [lenOf] at hc2
      have hc2 := Nat.le_of_ble_eq_true hc2
      have hb1 : (n + m) * (i.bytes + 1) ≤ 1000000000 := by rw [hib]; exact hc2
      have hb2 : (n + m) * i.bytes ≤ 1000000000 := Nat.le_trans (Nat.mul_le_mul_left _ (by omega)) hb1
      have hb3 : (n + m) * 1 ≤ (n + m) * (i.bytes + 1) := Nat.mul_le_mul_left _ (by omega)
      obtain ⟨k1, k2⟩ := run_append_any (w := w) ts t u ty e ht0 ht1 i z eu ht hu hi hz (some ⟨b', o, none⟩) n k m xv narr h1 h2 h2'
      split at he
      · rename_i hfit
        have hfit := Nat.le_of_ble_eq_true hfit
        split at he
        · rename_i h2 hwr
          cases he
          obtain ⟨w', g1, g2, g3⟩ := SR.store (P := P) S hb hwr hnl
          refine EffOk.lift (k1 hfit w' ?_) (Cx.ext.refl _ _) g2 (.sl hb) (Nat.le_refl _) g3
          dsimp only
          rw [his, Addr.add_mid]
          exact g1
        · cases he
      · rename_i hfit
        have hfit : ¬ (n + m ≤ k) := fun hh => by rw [Nat.ble_eq_true_of_le hh] at hfit; cases hfit
        split at he
        · rename_i old hrd
          cases he
          have hrd' : evFirst h ei.size n (.sl b o n k) = some old := hrd
          obtain ⟨oarr, o1, o2, ol⟩ := evFirst_ok (P := P) S.heap hrd' (VR.sl hb)
          rw [← his] at o2
          have holen : oarr.size = n * ei.size := by
            have h1 := ol.len
            rw [rd_len hrd] at h1
            simpa using h1.symm
          have hr := k2 (by omega) (by omega) (by omega) oarr o2
          have hge := grownCap_ge w (n + m) k e
          refine EffOk.lift hr (Cx.ext_add c nx w.heap.size (grownCap w (n + m) k e)) (S.new (.inr rfl) (x := .cells e ei.size true false (old ++ news)) ?_) ?_ (by omega) (fun j hj _ => by rw [T.get_put, if_neg (by omega)])
          · refine BR_grown ?_ ?_ S.size
            · have := (ol.append hnl).mono (Cx.le_add w.heap.size (grownCap w (n + m) k e) S.unused)
              simpa using this
            · rw [Array.size_append, holen, hnlen, hzc', ← Nat.add_mul, ← Nat.add_mul]
              congr 1
              omega
          · have := @VR.gsl (c.add nx w.heap.size (grownCap w (n + m) k e)) nx 0 (n + m) ei.size w.heap.size (Cx.add_ρ ..) (by rw [Cx.add_κ]; omega)
            rw [Cx.add_κ] at this
            simpa using this
        · cases he
    · -- room that hangs on the tape
      rename_i b l n sz
      cases hs
      rename_i b' hb hle
      simp only [lenOf] at hc2
      have hc2 := Nat.le_of_ble_eq_true hc2
      have hb1 : (n + m) * (i.bytes + 1) ≤ 1000000000 := by rw [hib]; exact hc2
      have hb2 : (n + m) * i.bytes ≤ 1000000000 := Nat.le_trans (Nat.mul_le_mul_left _ (by omega)) hb1
      have hb3 : (n + m) * 1 ≤ (n + m) * (i.bytes + 1) := Nat.mul_le_mul_left _ (by omega)
      split at he
      · cases he
      · rename_i hsz'
        have hsz' := Nat.eq_of_beq_eq_true hsz'
        subst hsz'
        obtain ⟨k1, k2⟩ := run_append_any (w := w) ts t u ty e ht0 ht1 i z eu ht hu hi hz (some ⟨b', l * ei.size, none⟩) n (c.κ b - l) m xv narr h1 h2 h2'
        split at he
        · rename_i e' szb cs hg
          split at he
          · cases he
          · rename_i hck
            simp only [Bool.and_eq_true] at hck
            have hke := Nat.eq_of_beq_eq_true hck.1
            have hks := Nat.eq_of_beq_eq_true hck.2
            subst hke
            subst hks
            obtain ⟨arr, fz, hw, hle2, hp, hro, _, hg2⟩ := S.heap.cells hg hb
            obtain ⟨rfl, hBb⟩ := hro rfl
            have hg2 := hg2 rfl
            have hpos : 0 < ei.size := by omega
            split at he
            · rename_i hin
              have hin := Nat.le_of_ble_eq_true hin
              have hfit : l + n + m ≤ c.κ b := by
                rw [hg2] at hle2
                exact Nat.le_of_mul_le_mul_right (Nat.le_trans hin hle2) hpos
              split at he
              · rename_i h2 hwr
                cases he
                obtain ⟨w', g1, g2, g3⟩ := SR.store (P := P) S hb hwr hnl
                refine EffOk.lift (k1 (by omega) w' ?_) (Cx.ext.refl _ _) g2 (.gsl hb (by omega)) (Nat.le_refl _) g3
                dsimp only
                rw [his, Addr.add_mid]
                exact g1
              · cases he
            · split at he
              · rename_i hl0 hco
                have hl0 := Nat.eq_of_beq_eq_true hl0
                subst hl0
                split at he
                · cases he
                · rename_i hn
                  have hn := Nat.eq_of_beq_eq_true hn
                  cases he
                  have hnb : ∀ j, j < nx → c.ρ j = none → ((rm h b).put (some (.cells e' ei.size true false (cs ++ news))) nx).get j = h.get j := fun j hj hjn => by
                    rw [T.get_put, if_neg (by omega)]
                    unfold rm
                    rw [T.get_put, if_neg]
                    intro e
                    rw [e, hb] at hjn
                    cases hjn
                  by_cases hfit : n + m ≤ c.κ b
                  · -- the room is there
                    have hroom : (n + m) * ei.size ≤ arr.size := by rw [hg2]; exact Nat.mul_le_mul_right _ hfit
                    rw [Nat.add_mul] at hroom
                    have hrun := run_storeCells_at P b' (n * ei.size) e' narr.toList 0 arr w hw (by simp [hnlen]; omega) (cellsOnly_ok hco hnl)
                    simp only [Nat.add_zero] at hrun
                    have hadd : ((⟨b', 0 * ei.size, none⟩ : Addr).add (n * i.size)) = ⟨b', n * ei.size, none⟩ := by rw [Addr.add_mid, his]; simp
                    have hr := k1 (by omega) _ (by dsimp only; rw [hadd]; exact hrun)
                    have ho := onlyAt_setRow w b' (arr.toList.take (n * ei.size) ++ narr.toList ++ arr.toList.drop (n * ei.size + narr.toList.length)).toArray
                    refine EffOk.lift hr (Cx.ext_add c nx b' (c.κ b)) ⟨ho.below S.below hBb, by rw [ho.size]; exact S.size, S.heap.renew hg hb S.unused (setRow_heap w b' arr _ e' (0, 0) hw) ho.other ?_, Cx.fresh_add S.fresh, T.top_put (T.top_rm fun i x hi => Nat.lt_succ_of_lt (S.top i x hi)) (Nat.lt_succ_self _)⟩ ?_ (by omega) hnb
                    · have hsz2 : (arr.toList.take (n * ei.size) ++ narr.toList ++ arr.toList.drop (n * ei.size + narr.toList.length)).toArray.size = arr.size := by simp [hnlen]; omega
                      have hnl1 := hnl.len
                      simp at hnl1
                      refine ⟨rfl, by rw [hsz2]; simp; omega, fun k a ha => ?_, fun _ => ⟨rfl, hBb⟩, fun hh => (by cases hh), fun _ => by rw [hsz2]; exact hg2⟩
                      rw [List.getElem?_toArray, List.append_assoc]
                      by_cases hk : k < cs.length
                      · rw [List.getElem?_append_left hk] at ha
                        obtain ⟨v, hv, hvr⟩ := hp k a ha
                        refine ⟨v, ?_, hvr.mono (Cx.le_add _ _ S.unused)⟩
                        rw [List.getElem?_append_left (by simp; omega), List.getElem?_take, if_pos (by omega), Array.getElem?_toList]
                        exact hv
                      · rw [List.getElem?_append_right (by omega)] at ha
                        obtain ⟨v, hv, hvr⟩ := hnl.get ha
                        refine ⟨v, ?_, hvr.mono (Cx.le_add _ _ S.unused)⟩
                        have hk2 : k - cs.length < news.length := (List.getElem?_eq_some_iff.1 ha).1
                        have htl : (arr.toList.take (n * ei.size)).length = cs.length := by simp; omega
                        rw [List.getElem?_append_right (by omega), htl, List.getElem?_append_left (by simp; omega)]
                        exact hv
                    · have := @VR.gsl (c.add nx b' (c.κ b)) nx 0 (n + m) ei.size b' (Cx.add_ρ ..) (by rw [Cx.add_κ]; omega)
                      rw [Cx.add_κ] at this
                      exact this
                  · -- a new block
                    have hrd' : evFirst h ei.size n (.gsl b 0 n ei.size) = some cs := by
                      simp only [evFirst, rd, Nat.zero_mul]
                      rw [hg]
                      simp only [sub, List.drop_zero]
                      rw [hn, List.take_length]
                      simp
                    obtain ⟨oarr, o1, o2, ol⟩ := evFirst_ok (P := P) S.heap hrd' (VR.gsl hb hle)
                    rw [← his] at o2
                    rw [his] at o2
                    have holen : oarr.size = n * ei.size := by
                      have h1 := ol.len
                      rw [← hn] at h1
                      simpa using h1.symm
                    have hr := k2 (by omega) (by omega) (by omega) oarr (by rw [his]; simpa using o2)
                    have hge := grownCap_ge w (n + m) (c.κ b - 0) e'
                    have S' : SR w0 B c (rm h b) nx w := ⟨S.below, S.size, S.heap.rm b, S.fresh, T.top_rm S.top⟩
                    refine EffOk.lift hr (Cx.ext_add c nx w.heap.size (grownCap w (n + m) (c.κ b - 0) e')) (S'.new (.inr rfl) (x := .cells e' ei.size true false (cs ++ news)) ?_) ?_ (by omega) hnb
                    · refine BR_grown ?_ ?_ S.size
                      · have := (ol.append hnl).mono (Cx.le_add w.heap.size (grownCap w (n + m) (c.κ b - 0) e') S.unused)
                        simpa using this
                      · rw [Array.size_append, holen, hnlen, hzc', ← Nat.add_mul, ← Nat.add_mul]
                        congr 1
                        omega
                    · have := @VR.gsl (c.add nx w.heap.size (grownCap w (n + m) (c.κ b - 0) e')) nx 0 (n + m) ei.size w.heap.size (Cx.add_ρ ..) (by rw [Cx.add_κ]; omega)
                      rw [Cx.add_κ] at this
                      simpa using this
              · cases he
        · cases he
    · cases he

end
end Ev
end Go.Proofs.YtadkimnpeachpaaGreatDoor
/- The evaluator: EvEff3P. -/
set_option linter.unusedVariables false
set_option linter.unusedSimpArgs false
namespace Go.Proofs.YtadkimnpeachpaaGreatDoor
namespace Ev
open Go.RowKit

section
variable {P : Program} {E : Env} (HE : EnvOk P E) {c : Cx} {B : Nat} {h : T ABk} {w w0 : World} {nx : Nat} (S : SR w0 B c h nx w)

theorem EffOk.skip {s : Sem Unit} {h' : T ABk} {nx' : Nat} {c' : Cx} {w' : World} (hr : s.run P w = .ok () w') (he : c.ext nx c') (hS : SR w0 B c' h' nx' w') (hn : nx ≤ nx')
    (hu : ∀ i, i < nx → c.ρ i = none → h'.get i = h.get i) : EffOk P w0 B c h nx w (do s; pure Next.skip) (.tup []) h' nx' :=
  ⟨c', w', undef, .inr ⟨by simp only [Sem.run_bind, hr, Result.andThen_ok, Sem.run_pure], rfl⟩, he, hS, LR.tup (LR.nil c'), hn, hu⟩

include HE S in
theorem eff_map {t : Nat} {k x : AV} {mv kv xv : Value} {b : Nat} {ti : TI} {es : List (AV × AV)} {cl kt e : Nat} (hm : VR c (.map b) mv) (hk : VR c k kv) (hx : VR c x xv)
    (hti : E.ty.get t = some ti) (hd : ti.d = .map kt e) (hg : h.get b = some (.map es cl)) (hko : keyOk E 20 kt k = true) (hf : findE E kt k es = some none) :
    EffOk P w0 B c h nx w (do Instr.mapUpdate t mv kv xv; pure Next.skip) (.tup []) (h.put (some (.map (es ++ [(k, x)]) (cl + 1))) b) nx := by
  obtain ⟨b', rfl, hb⟩ := hm.mapE
  obtain ⟨D, hD, hkk⟩ := (HE.ty _ _ hti).desc
  rw [hd] at hkk
  cases D <;> simp only [TDok] at hkk
  obtain ⟨rfl, rfl⟩ := hkk
  rename_i kt e
  have hU := run_underlying hD w
  obtain ⟨o, ho, hbr⟩ := S.heap.bk b _ b' hg hb
  cases o <;> simp only [BR] at hbr
  rename_i arr cl'
  obtain ⟨rfl, hBb, es', hp, hk1, hk2⟩ := hbr
  have hck := keyOk_ok HE w 20 10000 kt false k kv (by decide) hk hko
  have hDk : ∃ Dk, P.underlying kt = some Dk := by
    unfold keyOk at hko
    split at hko
    · cases hko
    · rename_i tk htk
      obtain ⟨Dk, hDk, _⟩ := (HE.ty _ _ htk).desc
      exact ⟨Dk, hDk⟩
  obtain ⟨Dk, hDk⟩ := hDk
  obtain ⟨r', g1, g2⟩ := findKey_ok HE w hDk hk hp hk1 hk2 hf
  cases g2
  have hgo : (getObj b').run P w = .ok (.map arr cl') w := by simp [getObj, Sem.run, ho]
  have hlt : b' < w.heap.size := (Array.getElem?_eq_some_iff.1 ho).1
  have hso : ∀ o', (setObj b' o').run P w = .ok () { w with heap := w.heap.setIfInBounds b' o' } := fun o' => by simp [setObj, Sem.run, ho]
  have hrun : (Instr.mapUpdate t (.map (some b')) kv xv).run P w = .ok () { w with heap := w.heap.setIfInBounds b' (.map (arr.push { key := kv, val := xv, born := cl' }) (cl' + 1)) } := by
    simp only [Instr.mapUpdate, Sem.run_bind, hU, Result.andThen_ok, hgo, hck, g1, hso]
  have hoth : ∀ j, j ≠ b' → (w.heap.setIfInBounds b' (.map (arr.push { key := kv, val := xv, born := cl' }) (cl' + 1)))[j]? = w.heap[j]? := fun j hj => Array.getElem?_setIfInBounds_ne (Ne.symm hj)
  refine EffOk.skip hrun (Cx.ext.refl _ _) ⟨?_, ?_, S.heap.write hg hb (o := .map (arr.push { key := kv, val := xv, born := cl' }) (cl' + 1)) ?_ hoth ?_, S.fresh, T.top_put S.top (S.top b _ hg)⟩ (Nat.le_refl _) (fun i hi hn => ?_)
  · exact ⟨S.below.os, S.below.tape, S.below.output, by simpa using S.below.size, fun j hj => (hoth j (by omega)).trans (S.below.block j hj)⟩
  · simpa using S.size
  · simp [hlt]
  · refine ⟨rfl, hBb, es' ++ [(k, x)], hp.append_right _, ?_, ?_⟩
    · simpa using hk1.append (LR.cons hk (LR.nil c))
    · simpa using hk2.append (LR.cons hx (LR.nil c))
  · rw [T.get_put, if_neg]
    intro e
    rw [e, hb] at hn
    cases hn

include HE S in
theorem evEff_ok {r : Operand → Option AV} {ρ : Operand → Value} (o : Oper) (hr : OpsR c r ρ o.op) {v : AV} {h' : T ABk} {nx' : Nat} (he : evEff E r h nx o = some (v, h', nx')) :
    EffOk P w0 B c h nx w (execOp ρ o) v h' nx' := by
  obtain ⟨dst, op, type, pos, after, guard⟩ := o
  cases op
  case store t a x =>
    simp only [evEff] at he
    split at he
    · rename_i b o vx ti ha hx hti
      have h0 := hr x (by simp [Op.operands]) _ hx
      obtain ⟨b', h1, hb⟩ := (hr a (by simp [Op.operands]) _ ha).ptrE
      split at he
      · rename_i hlen
        have hlen := Nat.eq_of_beq_eq_true hlen
        cases hw : wr h b o vx.cells with
        | none => rw [hw] at he; cases he
        | some h2 =>
          rw [hw] at he
          cases he
          have hcl := h0.cells
          have hl := hcl.len
          simp at hl
          obtain ⟨w', g1, g2, g3⟩ := SR.store (P := P) S hb hw hcl
          refine EffOk.skip (s := Instr.storeAt t (ρ a) (ρ x)) ?_ (Cx.ext.refl _ _) g2 (Nat.le_refl _) g3
          simp only [Instr.storeAt, h1, Instr.sureAddr, Sem.run_bind, Sem.run_pure, Result.andThen_ok, storeVar, (HE.ty _ _ hti).size w, Sem.run_ite]
          rw [if_neg (by omega)]
          simpa using g1
      · cases he
    · cases he
  case mapUpdate t m k x =>
    simp only [evEff] at he
    split at he
    · rename_i b key vx hm hk hx
      split at he
      · rename_i ti es cl hti hg
        split at he
        · rename_i kt e hd
          split at he
          · rename_i hko hf
            cases he
            exact eff_map HE S (hr m (by simp [Op.operands]) _ hm) (hr k (by simp [Op.operands]) _ hk) (hr x (by simp [Op.operands]) _ hx) hti hd hg hko hf
          · cases he
        · cases he
      · cases he
    · cases he
  case insert t m k x =>
    simp only [evEff] at he
    split at he
    · rename_i b key vx hm hk hx
      split at he
      · rename_i ti es cl hti hg
        split at he
        · rename_i kt e hd
          split at he
          · rename_i hko hf
            cases he
            exact eff_map HE S (hr m (by simp [Op.operands]) _ hm) (hr k (by simp [Op.operands]) _ hk) (hr x (by simp [Op.operands]) _ hx) hti hd hg hko hf
          · cases he
        · cases he
      · cases he
    · cases he
  case call cl =>
    obtain ⟨callee, args, argTypes⟩ := cl
    cases callee <;> simp only [evEff] at he <;> try (cases he; done)
    rename_i b
    have hv : execOp ρ ⟨dst, .call ⟨.builtin b, args, argTypes⟩, type, pos, after, guard⟩ = builtin b argTypes type (args.map fun | .const _ => true | _ => false) (args.map ρ) := rfl
    rw [hv]
    split at he
    · cases he
    · rename_i l hl
      have hL := evOperands_ok args.toList l (fun x hx => hr x (by simp [Op.operands, Call.operands]; simpa using hx)) hl
      have hA : (args.map ρ).toList = args.toList.map ρ := by simp
      rw [← hA] at hL
      generalize args.map ρ = vs at hL
      obtain ⟨vs⟩ := vs
      simp only at hL
      have hnt : ∀ j t, nth argTypes.toList j = some t → argTypes[j]? = some t := fun j t ht => by rw [nth_eq, Array.getElem?_toList] at ht; exact ht
      split at he
      · -- append
        rename_i s x
        obtain ⟨sv, xv, rfl⟩ : ∃ v u, vs = [v, u] := by
          have := hL.len
          match vs, this with
          | [v, u], _ => exact ⟨v, u, rfl⟩
        split at he
        · rename_i t u ht hu
          split at he
          · rename_i ti ui hti hui
            obtain ⟨D, hD, hk⟩ := (HE.ty _ _ hti).desc
            obtain ⟨D', hD', hk'⟩ := (HE.ty _ _ hui).desc
            split at he
            · rename_i e e' hd hd'
              rw [hd] at hk
              rw [hd'] at hk'
              cases D <;> simp only [TDok] at hk
              cases D' <;> simp only [TDok] at hk'
              subst hk
              subst hk'
              split at he
              · rename_i ei m hei hm
                split at he
                · rename_i news hf
                  exact evAppend_ok S (hnt 0 t ht) (hnt 1 u hu) hD hD' (HE.ty _ _ hei) hL.head hL.tail.head hm hf he
                · cases he
              · cases he
            · cases he
          · cases he
        · cases he
      · -- copy
        rename_i d s
        obtain ⟨dv, sv, rfl⟩ : ∃ v u, vs = [v, u] := by
          have := hL.len
          match vs, this with
          | [v, u], _ => exact ⟨v, u, rfl⟩
        split at he
        · rename_i t ht
          split at he
          · rename_i ti hti
            obtain ⟨D, hD, hk⟩ := (HE.ty _ _ hti).desc
            have hU := run_underlying hD w
            split at he
            · rename_i e hd
              rw [hd] at hk
              cases D <;> simp only [TDok] at hk
              subst hk
              split at he
              · rename_i ei hei
                have hS := (HE.ty _ _ hei).size w
                cases hc : evCopy h ei.size d s with
                | none => rw [hc] at he; cases he
                | some p =>
                  rw [hc] at he
                  cases he
                  unfold evCopy at hc
                  split at hc
                  · rename_i dn sn hdn hsn
                    have hl1 := lenOf_ok (P := P) (w := w) hsn hL.tail.head
                    have rd := hL.head
                    split at hc
                    · cases hc
                    · rename_i cells hf
                      obtain ⟨arr, f1, _, fl⟩ := evFirst_ok (P := P) S.heap hf hL.tail.head
                      split at hc
                      · cases hc
                        cases rd
                        refine EffOk.lift (w' := w) (val := .int .i64 (Nat.min sn 0 : Nat)) ?_ (Cx.ext.refl _ _) S ?_ (Nat.le_refl _) (fun _ _ _ => rfl)
                        · simp only [lenOf, Option.some.injEq] at hdn
                          subst hdn
                          have f1' := f1
                          simp only [show Nat.min sn 0 = 0 from Nat.min_zero sn] at f1'
                          simp [Builtin.copy_, hnt 0 t ht, hU, hl1, hS, f1', goInt]
                        · simp only [lenOf, Option.some.injEq] at hdn
                          subst hdn
                          exact .int _ _
                      · rename_i b o n k
                        cases hw : wr h b o cells with
                        | none => rw [hw] at hc; cases hc
                        | some h2 =>
                          rw [hw] at hc
                          cases hc
                          obtain ⟨b', rfl, hb⟩ := rd.slE
                          simp only [lenOf, Option.some.injEq] at hdn
                          subst hdn
                          obtain ⟨w', g1, g2, g3⟩ := SR.store (P := P) S hb hw fl
                          refine EffOk.lift (w' := w') (val := .int .i64 (Nat.min sn n : Nat)) ?_ (Cx.ext.refl _ _) g2 (.int _ _) (Nat.le_refl _) g3
                          simp [Builtin.copy_, hnt 0 t ht, hU, hl1, hS, f1, g1, goInt]
                      · rename_i b l0 n sz
                        cases hw : wr h b (l0 * sz) cells with
                        | none => rw [hw] at hc; cases hc
                        | some h2 =>
                          rw [hw] at hc
                          cases hc
                          obtain ⟨b', rfl, hb, _⟩ := rd.gslE
                          simp only [lenOf, Option.some.injEq] at hdn
                          subst hdn
                          obtain ⟨w', g1, g2, g3⟩ := SR.store (P := P) S hb hw fl
                          refine EffOk.lift (w' := w') (val := .int .i64 (Nat.min sn n : Nat)) ?_ (Cx.ext.refl _ _) g2 (.int _ _) (Nat.le_refl _) g3
                          simp [Builtin.copy_, hnt 0 t ht, hU, hl1, hS, f1, g1, goInt]
                      · cases hc
                  · cases hc
              · cases he
            · cases he
          · cases he
        · cases he
      · cases he
  all_goals (simp only [evEff] at he; cases he)

end
end Ev
end Go.Proofs.YtadkimnpeachpaaGreatDoor
/- The evaluator: EvCodeP. -/
set_option linter.unusedVariables false
set_option linter.unusedSimpArgs false
namespace Go.Proofs.YtadkimnpeachpaaGreatDoor
namespace Ev
open Go.RowKit

/-- a call that answers -/
def CallsAny (P : Program) (f : FuncId) (vs : Array Value) (w : World) (R : Value → World → Prop) : Prop :=
  (∃ v w', (callFunc f vs).run P w = .ok (.value v) w' ∧ R v w') ∨
  ((callFunc f vs).run P w = .ok (.enter f vs) w ∧ Calls P f vs w fun e w' => ∃ v, e = .returned v ∧ R v w')

/-- what is known of the functions -/
structure FnsOk (P : Program) (E : Env) : Prop where
  mixed : P.follows .mixedOrders = true
  fn : ∀ f fn, E.fn.get f = some fn → P.funcs[f]? = some fn ∧ (fn.name == "runtime.NumGoroutine") = false
  pure : ∀ f g, E.pure.get f = some g → ∀ (c : Cx) (args : List AV) (vs : Array Value) (v : AV) (w : World), LR c args vs.toList → g args = some v →
    CallsAny P f vs w fun val w' => VR c v val ∧ Below w.heap.size w w'
  idle : ∀ f n, E.idle.get f = some n → ∀ (vs : Array Value) (w : World), vs.size = n → (callFunc f vs).run P w = .ok (.enter f vs) w ∧
    CallsD P f vs .returning w fun e u' w' => (∃ v, e = .returned v) ∧ u' = .returning ∧ Below w.heap.size w w'

def GlOk (E : Env) (c : Cx) : Prop := ∀ g b, E.gl.get g = some b → c.ρ b = some g

theorem GlOk.mono {E : Env} {c c' : Cx} (h : GlOk E c) (hc : c.le c') : GlOk E c' := fun g b hb => hc.ρ b g (h g b hb)

structure TRel (c : Cx) (nt : Nat) (tm : T AV) (tmps : Array Value) : Prop where
  size : nt ≤ tmps.size
  at_ : ∀ t x, tm.get t = some x → ∃ v, tmps[t]? = some v ∧ VR c x v

/-- deferred calls -/
inductive DRel (c : Cx) : List AV → List Deferred → Prop
  | nil : DRel c [] []
  | cons {f : Nat} {xs ys : List AV} {d : Deferred} {l : List AV} {ds : List Deferred} {caps : Array Value} (ht : d.target = .fn (.func f) caps) (hn : (d.args ++ caps).size = xs.length + ys.length) (hl : DRel c l ds) : DRel c (.func f xs ys :: l) (d :: ds)

structure StR (E : Env) (w0 : World) (B : Nat) (c : Cx) (st : St) (a : Act) (w : World) : Prop where
  mem : SR w0 B c st.heap st.next w
  tm : TRel c st.nt st.tm a.tmps
  defers : DRel c st.defers a.defers
  gl : GlOk E c

/-- what comes behind a part of the code -/
structure Step (E : Env) (w0 : World) (B : Nat) (c : Cx) (st : St) (c' : Cx) (st' : St) (a' : Act) (w' : World) : Prop where
  ext : c.ext st.next c'
  rel : StR E w0 B c' st' a' w'
  next : st.next ≤ st'.next
  still : ∀ i, i < st.next → c.ρ i = none → st'.heap.get i = st.heap.get i

theorem Step.trans {E : Env} {w0 : World} {B : Nat} {c c' c'' : Cx} {st st' st'' : St} {a' a'' : Act} {w' w'' : World} (h : Step E w0 B c st c' st' a' w') (k : Step E w0 B c' st' c'' st'' a'' w'') :
    Step E w0 B c st c'' st'' a'' w'' :=
  ⟨h.ext.trans h.next k.ext, k.rel, Nat.le_trans h.next k.next, fun i hi hn => by
    rw [k.still i (Nat.lt_of_lt_of_le hi h.next) (by rw [h.ext.ρ i hi]; exact hn), h.still i hi hn]⟩

def exOf : Ex → Exit
  | .norm => .normal
  | .exit id => .exit id
  | .ret => .ret

def RecOk (P : Program) (E : Env) (w0 : World) (B : Nat) (rec_ : Rec) : Prop :=
  ∀ code st ex st', rec_ code st = some (ex, st') → ∀ c a w, StR E w0 B c st a w → ∀ Q : Exit → Act → World → Prop,
    (∀ c' a' w', Step E w0 B c st c' st' a' w' → Q (exOf ex) a' w') → code.wp P Q a w

theorem DRel.mono {c c' : Cx} {l : List AV} {ds : List Deferred} (h : DRel c l ds) : DRel c' l ds := by
  induction h with
  | nil => exact .nil
  | cons ht hn _ ih => exact .cons ht hn ih

theorem TRel.mono {c c' : Cx} (hc : c.le c') {nt : Nat} {tm : T AV} {tmps : Array Value} (h : TRel c nt tm tmps) : TRel c' nt tm tmps :=
  ⟨h.size, fun t x hx => by obtain ⟨v, h1, h2⟩ := h.at_ t x hx; exact ⟨v, h1, h2.mono hc⟩⟩

theorem SR.le {w0 w w' : World} {B nx : Nat} {c c' : Cx} {h : T ABk} (S : SR w0 B c h nx w) (he : c.ext nx c') : c.le c' := he.le S.fresh

/-- what is below stays -/
theorem SR.under {w0 w w' : World} {B nx : Nat} {c : Cx} {h : T ABk} (S : SR w0 B c h nx w) (hb : Below w.heap.size w w') : SR w0 B c h nx w' := by
  refine ⟨S.below.trans (hb.mono S.size), Nat.le_trans S.size hb.size, ⟨fun i x b hi hib => ?_, S.heap.inj⟩, S.fresh, S.top⟩
  obtain ⟨o, ho, hr⟩ := S.heap.bk i x b hi hib
  exact ⟨o, (hb.block b (S.heap.lt hi hib)).trans ho, hr⟩

section
variable {P : Program} {E : Env} (HE : EnvOk P E) (HF : FnsOk P E) {w0 : World} {B : Nat} {c : Cx}

theorem evOperand_ok {tm : T AV} {nt : Nat} {a : Act} (ht : TRel c nt tm a.tmps) (hg : GlOk E c) (x : Operand) (v : AV) (h : evOperand E tm x = some v) : VR c v (a.eval x) := by
  cases x with
  | tmp t =>
    simp only [evOperand] at h
    obtain ⟨u, h1, h2⟩ := ht.at_ t v h
    have : a.eval (.tmp t) = u := by simp [Act.eval, h1]
    rw [this]
    exact h2
  | const u => exact cvt_ok c u v h
  | global g =>
    simp only [evOperand] at h
    split at h
    · rename_i b hb
      cases h
      exact .ptr (hg g b hb)
    · cases h
  | func f =>
    simp only [evOperand, Option.some.injEq] at h
    subst h
    exact .func rfl (fun k a v h => by simp at h) rfl (fun k a v h => by simp at h)

theorem TRel.put {nt : Nat} {tm : T AV} {a : Act} (ht : TRel c nt tm a.tmps) {d : Nat} (hd : d < nt) {x : AV} {v : Value} (hv : VR c x v) : TRel c nt (tm.put (some x) d) (a.put (some d) v).tmps := by
  have hs := ht.size
  refine ⟨by simp [Act.put]; exact hs, fun t y hy => ?_⟩
  rw [T.get_put] at hy
  split at hy
  · rename_i e
    subst e
    cases hy
    exact ⟨v, by simp only [Act.put]; rw [Array.getElem?_setIfInBounds_self_of_lt (by omega)], hv⟩
  · rename_i e
    obtain ⟨u, h1, h2⟩ := ht.at_ t y hy
    exact ⟨u, by simp only [Act.put]; rw [Array.getElem?_setIfInBounds_ne (Ne.symm e)]; exact h1, h2⟩

/-- a temporary is written -/
theorem StR.put {st st' : St} {a : Act} {w : World} (h : StR E w0 B c st a w) {dst : Option Nat} {x : AV} {v : Value} (hv : VR c x v) (he : Ev.put st dst x = some st') : StR E w0 B c st' (a.put dst v) w ∧ st'.heap = st.heap ∧ st'.next = st.next := by
  unfold Ev.put at he
  split at he
  · cases he
    exact ⟨h, rfl, rfl⟩
  · rename_i d
    split at he
    · rename_i hd
      cases he
      rw [Nat.blt_eq] at hd
      exact ⟨⟨h.mem, h.tm.put hd hv, h.defers, h.gl⟩, rfl, rfl⟩
    · cases he

/-- the operations of a region see related values -/
theorem opsR_of {st : St} {a : Act} {w : World} (h : StR E w0 B c st a w) (o : Op) : OpsR c (evOperand E st.tm) a.eval o := fun x _ v hv => evOperand_ok h.tm h.gl x v hv

def resRun (tmps : Array Value) : ResultVar → Sem Value
  | .tmp t => pure (tmps.getD t undef)
  | .cell a t => do loadVar t (← asAddr (tmps.getD a undef))

theorem results_ok (HE : EnvOk P E) {h : T ABk} {w : World} (H : HR c B h w) {tm : T AV} {nt : Nat} {tmps : Array Value} (ht : TRel c nt tm tmps) : ∀ (rs : List ResultVar) (l : List AV), resultsOf E tm h rs = some l →
    ∃ vs : List Value, (rs.mapM (resRun tmps)).run P w = .ok vs w ∧ LR c l vs
  | [], l, hl => by
    simp only [resultsOf, Option.some.injEq] at hl
    subst hl
    exact ⟨[], by simp, LR.nil c⟩
  | r :: rs, l, hl => by
    simp only [resultsOf] at hl
    split at hl
    · rename_i v hv
      split at hl
      · rename_i l' hl'
        cases hl
        obtain ⟨vs, h1, h2⟩ := results_ok HE H ht rs l' hl'
        have : ∃ u, (resRun tmps r).run P w = .ok u w ∧ VR c v u := by
          cases r with
          | tmp t =>
            obtain ⟨u, g1, g2⟩ := ht.at_ t v hv
            exact ⟨u, by simp [resRun, g1], g2⟩
          | cell t ty =>
            simp only [resultOf] at hv
            split at hv
            · rename_i b o ti hb hti
              obtain ⟨u, g1, g2⟩ := ht.at_ t _ hb
              obtain ⟨b', rfl, hbb⟩ := g2.ptrE
              obtain ⟨x, g3, g4⟩ := H.loadVar (HE.ty _ _ hti) hbb hv
              exact ⟨x, by simp [resRun, g1, asAddr, g3], g4⟩
            · cases hv
        obtain ⟨u, g1, g2⟩ := this
        refine ⟨u :: vs, ?_, LR.cons g2 h2⟩
        rw [List.mapM_cons]
        simp only [Sem.run_bind, g1, h1, Result.andThen_ok, Sem.run_pure]
      · cases hl
    · cases hl

def oneOf : List AV → AV
  | [x] => x
  | l => .tup l

/-- what a function answers -/
theorem resultsV_ok (HE : EnvOk P E) {h : T ABk} {w : World} (H : HR c B h w) {tm : T AV} {nt : Nat} {fn : Func} {tmps : Array Value} (ht : TRel c nt tm tmps) {l : List AV} (hl : resultsOf E tm h fn.results.toList = some l) :
    ∃ v, (results fn tmps).run P w = .ok v w ∧ VR c (oneOf l) v := by
  obtain ⟨vs, h1, h2⟩ := results_ok (P := P) HE H ht fn.results.toList l hl
  have hdef : results fn tmps = (do let vs ← fn.results.mapM (resRun tmps); pure (if h : vs.size = 1 then vs[0] else .tuple vs)) := rfl
  have hrun : (results fn tmps).run P w = .ok (if h : vs.toArray.size = 1 then vs.toArray[0] else .tuple vs.toArray) w := by
    rw [hdef, Array.mapM_eq_mapM_toList]
    simp only [Sem.run_bind, Sem.run_map, h1, Result.andThen_ok, Sem.run_pure]
  refine ⟨_, hrun, ?_⟩
  have hlen := h2.len
  clear hl hrun h1 hdef
  rcases l with _ | ⟨x, _ | ⟨y, r⟩⟩
  · rcases vs with _ | ⟨v, vs⟩
    · exact LR.tup h2
    · simp at hlen
  · rcases vs with _ | ⟨v, _ | ⟨u, vs⟩⟩
    · simp at hlen
    · exact h2.head
    · simp at hlen
  · rcases vs with _ | ⟨v, _ | ⟨u, vs⟩⟩
    · simp at hlen
    · simp at hlen
    · rw [dif_neg (by simp)]
      exact LR.tup (by simpa using h2)

theorem lay_get : ∀ (as : List AV) (i t : Nat) (tm : T AV), (lay as i tm).get t = if i ≤ t ∧ t < i + as.length then as[t - i]? else tm.get t
  | [], i, t, tm => by
    simp only [lay, List.length_nil]
    rw [if_neg (by omega)]
  | a :: as, i, t, tm => by
    simp only [lay, List.length_cons]
    rw [lay_get as (i + 1) t, T.get_put]
    by_cases h1 : t = i
    · subst h1
      rw [if_neg (by omega), if_pos rfl, if_pos (by omega)]
      simp
    · by_cases h2 : i + 1 ≤ t ∧ t < i + 1 + as.length
      · rw [if_pos h2, if_pos (by omega), show t - i = (t - (i + 1)) + 1 by omega]
        simp
      · rw [if_neg h2, if_neg h1, if_neg (by omega)]

include HF in
theorem leaves_ok {h : T ABk} {nx : Nat} {fn : Func} {tmps : Array Value} {R : Ending → World → Prop} {l : List AV} {ds : List Deferred} (hd : DRel c l ds) (w : World) (hi : idleAll E l = true) (hS : SR w0 B c h nx w)
    (hR : ∀ w', SR w0 B c h nx w' → ∃ v, (results fn tmps).run P w' = .ok v w' ∧ R (.returned v) w') : Leaves P fn tmps R ds .returning w := by
  induction hd generalizing w with
  | nil => exact hR w hS
  | @cons f xs ys d l ds caps ht hn hl ih =>
    obtain ⟨target, dargs⟩ := d
    simp only at ht hn
    subst ht
    simp only [idleAll] at hi
    split at hi
    · rename_i hu
      split at hi
      · rename_i hq
        obtain ⟨h1, h2⟩ := HF.idle f _ hu (dargs ++ caps) w (by rw [hn, Nat.eq_of_beq_eq_true hq])
        refine leaves_cons (by simp) h1 (h2.mono fun e u' w' => ?_)
        rintro ⟨⟨v, rfl⟩, rfl, hb⟩
        exact ih w' hi (hS.under hb)
      · cases hi
    · cases hi

/-- what is known behind a call -/
def AfterCall (w0 : World) (B : Nat) (c : Cx) (h : T ABk) (nx : Nat) (v : AV) (h' : T ABk) (nx' : Nat) (val : Value) (w' : World) : Prop :=
  ∃ c', c.ext nx c' ∧ SR w0 B c' h' nx' w' ∧ VR c' v val ∧ nx ≤ nx' ∧ ∀ i, i < nx → c.ρ i = none → h'.get i = h.get i

include HE HF in
theorem evCall_ok {rec_ : Rec} (HR : RecOk P E w0 B rec_) {h h' : T ABk} {nx nx' f : Nat} {args : List AV} {vs : Array Value} {v : AV} {w : World} (S : SR w0 B c h nx w) (hg : GlOk E c) (hl : LR c args vs.toList)
    (he : evCall E rec_ h nx f args = some (v, h', nx')) : CallsAny P f vs w (AfterCall w0 B c h nx v h' nx') := by
  unfold evCall at he
  split at he
  · rename_i g hpg
    cases hga : g args with
    | none => rw [hga] at he; cases he
    | some x =>
      rw [hga] at he
      cases he
      have post : ∀ val w', VR c v val ∧ Below w.heap.size w w' → AfterCall w0 B c h nx v h nx val w' := fun val w' ⟨h1, h2⟩ => ⟨c, Cx.ext.refl _ _, S.under h2, h1, Nat.le_refl _, fun _ _ _ => rfl⟩
      rcases HF.pure f g hpg c args vs v w hl hga with ⟨val, w', h1, h2⟩ | ⟨h1, h2⟩
      · exact .inl ⟨val, w', h1, post val w' h2⟩
      · exact .inr ⟨h1, h2.mono fun e w' ⟨val, h3, h4⟩ => ⟨val, h3, post val w' h4⟩⟩
  · split at he
    · cases he
    · rename_i fn hfn
      obtain ⟨hf1, hf2⟩ := HF.fn f fn hfn
      split at he
      · cases he
      · rename_i code hb
        refine .inr ⟨?_, ?_⟩
        · have hbn : fn.body.isNone = false := by rw [hb]; rfl
          unfold callFunc
          simp only [Sem.run_bind, run_program, Result.andThen_ok, hf1]
          rw [if_neg (by simpa using hf2), if_neg (by simp [hbn])]
          rfl
        · refine calls_of_wp_defers hf1 hb ?_
          have hlen := hl.len
          simp at hlen
          have st0 : StR E w0 B c { tm := lay args 0 .leaf, nt := fn.ntmps, defers := [], heap := h, next := nx } { tmps := vs ++ Array.replicate (fn.ntmps - vs.size) undef, defers := [] } w := by
            refine ⟨S, ⟨by simp; omega, fun t x hx => ?_⟩, .nil, hg⟩
            rw [lay_get] at hx
            split at hx
            · rename_i ht
              obtain ⟨u, h1, h2⟩ := hl.get hx
              refine ⟨u, ?_, h2⟩
              rw [Array.getElem?_append_left (by omega)]
              rw [Array.getElem?_toList] at h1
              simpa using h1
            · cases hx
          have done : ∀ (s : St) (c' : Cx) (a' : Act) (w' : World), Step E w0 B c { tm := lay args 0 .leaf, nt := fn.ntmps, defers := [], heap := h, next := nx } c' s a' w' →
              (match idleAll E s.defers with
                | false => none
                | true => match resultsOf E s.tm s.heap fn.results.toList with
                  | some [v] => some (v, s.heap, s.next)
                  | some l => some (.tup l, s.heap, s.next)
                  | none => none) = some (v, h', nx') →
              Leaves P fn a'.tmps (fun e w' => ∃ val, e = .returned val ∧ AfterCall w0 B c h nx v h' nx' val w') a'.defers .returning w' := by
            intro s c' a' w' hs hh
            split at hh
            · cases hh
            · rename_i hid
              have key : ∀ l, resultsOf E s.tm s.heap fn.results.toList = some l → oneOf l = v → s.heap = h' → s.next = nx' →
                  Leaves P fn a'.tmps (fun e w' => ∃ val, e = .returned val ∧ AfterCall w0 B c h nx v h' nx' val w') a'.defers .returning w' := by
                intro l hl' hv hh1 hh2
                subst hh1
                subst hh2
                refine leaves_ok HF hs.rel.defers w' hid hs.rel.mem (fun w'' hS'' => ?_)
                obtain ⟨val, h1, h2⟩ := resultsV_ok (P := P) HE hS''.heap hs.rel.tm hl'
                rw [hv] at h2
                exact ⟨val, h1, val, rfl, c', hs.ext, hS'', h2, hs.next, hs.still⟩
              split at hh
              · rename_i x hl'
                cases hh
                exact key _ hl' rfl rfl rfl
              · rename_i l hne hl'
                cases hh
                refine key _ hl' ?_ rfl rfl
                match l, hne with
                | [], _ => rfl
                | [x], hne => exact absurd rfl (hne x)
                | _ :: _ :: _, _ => rfl
              · cases hh
          split at he
          · rename_i s hrec
            exact HR _ _ _ _ hrec c _ w st0 _ (fun c' a' w' hs => done s c' a' w' hs he)
          · rename_i s hrec
            exact HR _ _ _ _ hrec c _ w st0 _ (fun c' a' w' hs => done s c' a' w' hs he)
          · cases he

end
end Ev
end Go.Proofs.YtadkimnpeachpaaGreatDoor
/- The evaluator: EvOpsP. -/
set_option linter.unusedVariables false
set_option linter.unusedSimpArgs false
namespace Go.Proofs.YtadkimnpeachpaaGreatDoor
namespace Ev
open Go.RowKit

section
variable {P : Program} {E : Env} (HE : EnvOk P E) (HF : FnsOk P E) {w0 : World} {B : Nat} {c : Cx}

theorem Step.self {c : Cx} {st : St} {a : Act} {w : World} (h : StR E w0 B c st a w) : Step E w0 B c st c st a w := ⟨Cx.ext.refl _ _, h, Nat.le_refl _, fun _ _ _ => rfl⟩

theorem StR.with_mem {c c' : Cx} {st : St} {a : Act} {w w' : World} (h : StR E w0 B c st a w) (hc : c.le c') {h' : T ABk} {nx' : Nat} (S : SR w0 B c' h' nx' w') : StR E w0 B c' { st with heap := h', next := nx' } a w' :=
  ⟨S, h.tm.mono hc, h.defers.mono, h.gl.mono hc⟩

include HE HF in
/-- a call, as an operation -/
theorem callOp_ok {rec_ : Rec} (HR : RecOk P E w0 B rec_) {h h' : T ABk} {nx nx' : Nat} {w : World} (S : SR w0 B c h nx w) (hg : GlOk E c) {r : Operand → Option AV} {a : Act} {o : Oper} (hr : OpsR c r a.eval o.op) {v : AV}
    (he : evCallOp E rec_ r h nx o = some (v, h', nx')) {K : Act → World → Prop} {Q : Exit → Act → World → Prop}
    (hK : ∀ val w', AfterCall w0 B c h nx v h' nx' val w' → K (a.put o.dst val) w') : o.wp P a w K Q := by
  unfold evCallOp at he
  split at he
  · rename_i x args ats heq
    split at he
    · rename_i f first caps l hx hl
      have rx := hr x (by rw [heq]; simp [Op.operands, Call.operands]) _ hx
      have rl := evOperands_ok args.toList l (fun y hy => hr y (by rw [heq]; simp [Op.operands, Call.operands]; exact .inr (by simpa using hy))) hl
      obtain ⟨first', caps', hxe, r1, r2⟩ := rx.funcE
      have hall : LR c (first ++ l ++ caps) ((first' ++ args.map a.eval) ++ caps').toList := by
        have := (r1.append (by simpa using rl : LR c l (args.map a.eval).toList)).append r2
        simpa using this
      have hex : execOp a.eval o = callFunc f ((first' ++ args.map a.eval) ++ caps') := by
        unfold execOp
        rw [heq]
        simp only [resolve, hxe, Deferred.ofValue]
        rfl
      have hc := evCall_ok HE HF HR S hg hall he
      unfold Oper.wp
      rw [hex]
      rcases hc with ⟨val, w', h1, h2⟩ | ⟨h1, h2⟩
      · rw [h1]
        exact hK val w' h2
      · rw [h1]
        simp only [Oper.upon]
        refine h2.mono fun e w' ⟨val, he', h3⟩ => ?_
        subst he'
        exact hK val w' h3
    · cases he
  · cases he

include HE HF in
theorem evOp_ok {rec_ : Rec} (HR : RecOk P E w0 B rec_) {st st' : St} {a : Act} {w : World} (h : StR E w0 B c st a w) {o : Oper} (he : evOp E rec_ st o = some st') {K : Act → World → Prop} {Q : Exit → Act → World → Prop}
    (hK : ∀ c' a' w', Step E w0 B c st c' st' a' w' → K a' w') : o.wp P a w K Q := by
  have hops := opsR_of h o.op
  unfold evOp at he
  simp only at he
  have pure_case : (∀ v, evPure E (evOperand E st.tm) st.heap o = some v → Ev.put st o.dst v = some st' → o.wp P a w K Q) := fun v hv hp => by
    obtain ⟨val, h1, h2⟩ := evPure_ok HE h.mem.heap o hops hv
    obtain ⟨h3, h4, h5⟩ := h.put h2 hp
    unfold Oper.wp
    rw [h1]
    exact hK c _ w ⟨Cx.ext.refl _ _, h3, by omega, fun i _ _ => by rw [h4]⟩
  split at he
  · split at he
    · rename_i v hv; exact pure_case v hv he
    · cases he
  · split at he
    · rename_i v hv; exact pure_case v hv he
    · cases he
  · split at he
    · rename_i blk f hn
      obtain ⟨obj, val, w1, κ, h1, h2, h3⟩ := evNew_ok HE h.mem.size o hops hn
      obtain ⟨h4, h5⟩ := h3 st.next h.mem.unused
      have S' := h.mem.new h2 h4
      have he' := Cx.ext_add c st.next w.heap.size κ
      have hst := h.with_mem (h.mem.le (w' := w) he') S'
      obtain ⟨g1, g2, g3⟩ := hst.put h5 he
      unfold Oper.wp
      rw [h1]
      refine hK _ _ _ ⟨he', g1, by rw [g3]; exact Nat.le_succ _, fun i hi _ => ?_⟩
      rw [g2, T.get_put, if_neg (by omega)]
    · cases he
  · split at he
    · rename_i v h' nx' hv
      obtain ⟨c', w', val, h1, h2, h3, h4, h5, h6⟩ := evEff_ok HE h.mem o hops hv
      have hst := h.with_mem (h.mem.le (w' := w) h2) h3
      obtain ⟨g1, g2, g3⟩ := hst.put h4 he
      unfold Oper.wp
      rcases h1 with h1 | ⟨h1, rfl⟩ <;> rw [h1] <;> exact hK _ _ _ ⟨h2, g1, by rw [g3]; exact h5, fun i hi hn => by rw [g2]; exact h6 i hi hn⟩
    · cases he
  · split at he
    · rename_i v h' nx' hv
      refine callOp_ok HE HF HR h.mem h.gl hops hv fun val w' ⟨c', h2, h3, h4, h5, h6⟩ => ?_
      have hst := h.with_mem (h.mem.le (w' := w) h2) h3
      obtain ⟨g1, g2, g3⟩ := hst.put h4 he
      exact hK _ _ _ ⟨h2, g1, by rw [g3]; exact h5, fun i hi hn => by rw [g2]; exact h6 i hi hn⟩
    · cases he
  · split at he
    · rename_i x args ats heq
      split at he
      · rename_i f first caps l hx hl
        have rx := hops x (by rw [heq]; simp [Op.operands, Call.operands]) _ hx
        obtain ⟨first', caps', hxe, r1, r2⟩ := rx.funcE
        have hex : (execOp a.eval o).run P w = .ok (.defer { target := .fn (.func f) caps', args := first' ++ args.map a.eval }) w := by
          unfold execOp
          rw [heq]
          simp only [resolve, hxe, Deferred.ofValue, Sem.run_bind, Sem.run_pure, Result.andThen_ok]
        have hst : StR E w0 B c { st with defers := .func f (first ++ l) caps :: st.defers } { a with defers := { target := .fn (.func f) caps', args := first' ++ args.map a.eval } :: a.defers } w :=
          ⟨h.mem, h.tm, .cons rfl (by
            have rl := (evOperands_ok args.toList l (fun y hy => hops y (by rw [heq]; simp [Op.operands, Call.operands]; exact .inr (by simpa using hy))) hl).len
            have q1 := r1.len
            have q2 := r2.len
            simp at rl q1 q2
            simp
            omega) h.defers, h.gl⟩
        obtain ⟨g1, g2, g3⟩ := hst.put (LR.tup (arr := #[]) (LR.nil c)) he
        unfold Oper.wp
        rw [hex]
        exact hK _ _ _ ⟨Cx.ext.refl _ _, g1, by rw [g3]; exact Nat.le_refl _, fun i _ _ => by rw [g2]⟩
      · cases he
    · cases he

theorem wanted_ok {get : Nat → Option AV} {ops : Array Oper} {a : Act} {o : Oper} (hg : ∀ t x, get t = some x → ∃ v, a.tmps[t]? = some v ∧ VR c x v) {b : Bool} (h : wantedBy get ops.toList o = some b) : Region.wanted o (yielded ops a.tmps) = b := by
  unfold wantedBy at h
  unfold Region.wanted
  split at h
  · rename_i hn
    cases h
    rw [hn]
  · rename_i j want hn
    rw [hn]
    simp only
    split at h
    · rename_i oj hj
      rw [nth_eq, Array.getElem?_toList] at hj
      split at h
      · rename_i d hd
        have hy : ∀ v, a.tmps[d]? = some v → yielded ops a.tmps j = match v with | .bool b => some b | _ => none := fun v hv => by
          unfold yielded
          rw [hj]
          simp only [Option.bind_some, hd, hv]
          cases v <;> rfl
        split at h
        · rename_i b' hb
          cases h
          obtain ⟨v, h1, h2⟩ := hg d _ hb
          rw [hy v h1, h2.boolE]
          cases b' <;> cases want <;> rfl
        · rename_i x hne hb
          cases h
          obtain ⟨v, h1, h2⟩ := hg d _ hb
          rw [hy v h1]
          cases h2 <;> first | rfl | exact (hne _ rfl).elim
        · cases h
      · cases h
    · cases h

include HE HF in
theorem evOps_ok {rec_ : Rec} (HR : RecOk P E w0 B rec_) {ops : Array Oper} {Q : Exit → Act → World → Prop} : ∀ (k : Nat) (l : List Oper), ops.toList.drop k = l → ∀ (c : Cx) (st st' : St) (a : Act) (w : World), StR E w0 B c st a w →
    evOps E rec_ ops.toList l st = some st' → (∀ c' a' w', Step E w0 B c st c' st' a' w' → Q .normal a' w') → wpOps P ops Q (List.range' k l.length) a w := by
  intro k l
  induction l generalizing k with
  | nil =>
    intro hd c st st' a w h he hQ
    simp only [evOps, Option.some.injEq] at he
    subst he
    exact hQ c a w (Step.self h)
  | cons o l ih =>
    intro hd c st st' a w h he hQ
    have hk : ops.toList[k]? = some o := by
      have := congrArg (fun l => l[0]?) hd
      simpa using this
    have hk' : ops[k]? = some o := by rw [← Array.getElem?_toList]; exact hk
    have hd' : ops.toList.drop (k + 1) = l := by
      have := congrArg List.tail hd
      simpa [List.tail_drop] using this
    simp only [evOps] at he
    simp only [List.length_cons, List.range'_succ, wpOps, hk']
    split at he
    · rename_i hw
      have hwd := wanted_ok (ops := ops) (a := a) h.tm.at_ hw
      rw [hwd]
      simp only [if_true]
      split at he
      · rename_i st1 hop
        refine .inl (evOp_ok HE HF HR h hop fun c' a' w' hs => ?_)
        exact ih (k + 1) hd' c' st1 st' a' w' hs.rel he fun c'' a'' w'' hs' => hQ c'' a'' w'' (hs.trans hs')
      · cases he
    · rename_i hw
      have hwd := wanted_ok (ops := ops) (a := a) h.tm.at_ hw
      rw [hwd]
      simp only [Bool.false_eq_true, if_false]
      split at he
      · rename_i st1 hp
        obtain ⟨g1, g2, g3⟩ := h.put (LR.tup (arr := #[]) (LR.nil c)) hp
        have hs : Step E w0 B c st c st1 (a.put o.dst undef) w := ⟨Cx.ext.refl _ _, g1, by rw [g3]; exact Nat.le_refl _, fun i _ _ => by rw [g2]⟩
        exact ih (k + 1) hd' c st1 st' _ w g1 he fun c'' a'' w'' hs' => hQ c'' a'' w'' (hs.trans hs')
      · cases he
    · cases he

theorem exitTo_len (id : Nat) : ∀ (k k' : List Item), exitTo id k = some k' → k'.length ≤ k.length
  | [], k', h => by simp [exitTo] at h
  | x :: k, k', h => by
    cases x <;> simp only [exitTo] at h
    case inBlock id' =>
      split at h
      · cases h; simp
      · have := exitTo_len id k k' h; simp; omega
    all_goals (have := exitTo_len id k k' h; simp; omega)

theorem lone_inj {fr fr' : Frame} {cs cs' : List Frame} {w w' : World} (h : lone fr cs w = lone fr' cs' w') : fr = fr' := by
  have := congrArg Machine.gs h
  simp [lone] at this
  exact this.1

/-- a loop, a round at a time -/
theorem wp_loop_round {code : Code} {a : Act} {w : World} {Q : Exit → Act → World → Prop} (hg : ∀ l a w, ¬ Q (.goto l) a w) (ho : ∀ a w, ¬ Q .outgrown a w)
    (h : code.wp P (Exit.then ((Code.loop code).wp P Q) Q) a w) : (Code.loop code).wp P Q a w := by
  have hsteps : ∀ (b : Frame) (k : List Item) (cs : List Frame) (a : Act) (w : World) (m : Machine), Steps P (lone (b.at a (.code (.loop code) :: k)) cs w) m → m ≠ lone (b.at a (.code (.loop code) :: k)) cs w →
      Steps P (lone (b.at a (.inLoop code :: k)) cs w) m := by
    intro b k cs a w m ⟨n, hn⟩ hne
    cases n with
    | zero =>
      simp only [runN, Stepped.next.injEq] at hn
      exact absurd hn.symm hne
    | succ n =>
      simp only [runN, step_loop] at hn
      exact .head step_inLoop ⟨n, hn⟩
  have go : ∀ (b : Frame) (k : List Item) (cs : List Frame) (a : Act) (w : World), (Code.loop code).wp P Q a w → ∃ e a' w', Q e a' w' ∧ Arrives P (lone (b.at a (.inLoop code :: k)) cs w) b k cs e a' w' := by
    intro b k cs a w hl
    obtain ⟨e, a', w', hq, harr⟩ := hl b k cs
    refine ⟨e, a', w', hq, ?_⟩
    cases e with
    | normal =>
      refine hsteps b k cs a w _ harr fun e => ?_
      have := congrArg Frame.todo (lone_inj e)
      simp [Frame.at] at this
    | exit id =>
      refine fun k' hk => hsteps b k cs a w _ (harr k' hk) fun e => ?_
      have h1 := congrArg Frame.todo (lone_inj e)
      have h2 := exitTo_len id k k' hk
      simp only [Frame.at] at h1
      rw [h1] at h2
      simp at h2
      omega
    | goto l => exact (hg _ _ _ hq).elim
    | ret =>
      obtain ⟨todo, hs⟩ := harr
      refine ⟨todo, hsteps b k cs a w _ hs fun e => ?_⟩
      have := congrArg Frame.mode (lone_inj e)
      simp [Frame.at] at this
    | panic ch =>
      obtain ⟨todo, hs⟩ := harr
      refine ⟨todo, hsteps b k cs a w _ hs fun e => ?_⟩
      have := congrArg Frame.mode (lone_inj e)
      simp [Frame.at] at this
    | outgrown => exact (ho _ _ hq).elim
  intro b k cs
  obtain ⟨e, a₁, w₁, hq, harr⟩ := h b (.inLoop code :: k) cs
  cases e with
  | normal =>
    obtain ⟨e₂, a₂, w₂, hq₂, harr₂⟩ := go b k cs a₁ w₁ hq
    exact ⟨e₂, a₂, w₂, hq₂, .of_steps (.head step_loop harr) harr₂⟩
  | exit id => exact ⟨_, a₁, w₁, hq, .of_steps (.one step_loop) (.pass (x := .inLoop code) rfl (fun _ _ => .inl (by simp)) harr)⟩
  | goto l => exact ⟨_, a₁, w₁, hq, .of_steps (.one step_loop) (.pass (x := .inLoop code) rfl (fun _ _ => .inl (by simp)) harr)⟩
  | ret => exact ⟨_, a₁, w₁, hq, .of_steps (.one step_loop) (.pass (x := .inLoop code) rfl (fun _ _ => .inl (by simp)) harr)⟩
  | panic ch => exact ⟨_, a₁, w₁, hq, .of_steps (.one step_loop) (.pass (x := .inLoop code) rfl (fun _ _ => .inl (by simp)) harr)⟩
  | outgrown => exact ⟨_, a₁, w₁, hq, .of_steps (.one step_loop) (.pass (x := .inLoop code) rfl (fun _ _ => .inl (by simp)) harr)⟩

/-- a region that draws (Ev's own text behind this one) -/
def DrawOk (P : Program) (E : Env) (w0 : World) (B : Nat) : Prop :=
  ∀ rec_ : Rec, RecOk P E w0 B rec_ → ∀ (id : Nat) (ops : Array Oper) (st st' : St), evDraw E rec_ ops.toList st = some st' → ∀ c a w, StR E w0 B c st a w → ∀ Q : Exit → Act → World → Prop,
    (∀ a w, ¬ Q .outgrown a w) → (∀ ch a w, ¬ Q (.panic ch) a w) → (∀ c' a' w', Step E w0 B c st c' st' a' w' → Q .normal a' w') → (Code.region id ops true).wp P Q a w

include HE HF in
theorem evStep_ok (HD : DrawOk P E w0 B) {rec_ : Rec} (HR : RecOk P E w0 B rec_) : RecOk P E w0 B (evStep E rec_) := by
  intro code st ex st' he c a w h Q' hQ'
  -- only the exits that there are
  let Q : Exit → Act → World → Prop := fun e a' w' => (match e with | .goto _ | .outgrown | .panic _ => False | _ => True) ∧ Q' e a' w'
  have hQ : ∀ c' a' w', Step E w0 B c st c' st' a' w' → Q (exOf ex) a' w' := fun c' a' w' hs => ⟨by cases ex <;> trivial, hQ' c' a' w' hs⟩
  have hQg : ∀ l a w, ¬ Q (.goto l) a w := fun l a w hh => hh.1
  have hQo : ∀ a w, ¬ Q .outgrown a w := fun a w hh => hh.1
  have hQp : ∀ ch a w, ¬ Q (.panic ch) a w := fun ch a w hh => hh.1
  suffices code.wp P Q a w from wp_mono this fun e a w hh => hh.2
  unfold evStep at he
  cases code <;> simp only at he <;> try (cases he; done)
  case skip =>
    cases he
    exact wp_skip (hQ c a w (Step.self h))
  case region id ops draw =>
    cases draw
    · simp only at he
      cases hh : evOps E rec_ ops.toList ops.toList st with
      | none => rw [hh] at he; cases he
      | some s =>
        rw [hh] at he
        cases he
        refine wp_region ?_
        have := evOps_ok HE HF HR (Q := Q) 0 ops.toList rfl c st st' a w h hh (fun c' a' w' hs => hQ c' a' w' hs)
        rw [List.range_eq_range']
        simpa using this
    · simp only at he
      cases hh : evDraw E rec_ ops.toList st with
      | none => rw [hh] at he; cases he
      | some s =>
        rw [hh] at he
        cases he
        exact HD rec_ HR id ops st st' hh c a w h Q hQo hQp (fun c' a' w' hs => hQ c' a' w' hs)
  case seq x y =>
    split at he
    · rename_i st1 hx
      refine wp_seq (HR _ _ _ _ hx c a w h _ fun c' a' w' hs => ?_)
      exact HR _ _ _ _ he c' a' w' hs.rel _ fun c'' a'' w'' hs' => hQ c'' a'' w'' (hs.trans hs')
    · rename_i r hne
      refine wp_seq (HR _ _ _ _ he c a w h _ fun c' a' w' hs => ?_)
      have := hQ c' a' w' hs
      cases ex with
      | norm => exact (hne st' he).elim
      | exit id => exact this
      | ret => exact this
  case cond x y z =>
    split at he
    · rename_i hx
      exact wp_cond_true (evOperand_ok h.tm h.gl x _ hx).boolE (HR _ _ _ _ he c a w h _ hQ)
    · rename_i hx
      exact wp_cond_false (evOperand_ok h.tm h.gl x _ hx).boolE (HR _ _ _ _ he c a w h _ hQ)
    · cases he
  case block id x =>
    split at he
    · rename_i i st1 hx
      split at he
      · rename_i hi
        cases he
        have hi := Nat.eq_of_beq_eq_true hi
        subst hi
        refine wp_block (HR _ _ _ _ hx c a w h _ fun c' a' w' hs => ?_)
        simp only [exOf, Exit.inBlock, if_true]
        exact hQ c' a' w' hs
      · rename_i hi
        cases he
        have hi := Nat.ne_of_beq_eq_false hi
        refine wp_block (HR _ _ _ _ hx c a w h _ fun c' a' w' hs => ?_)
        simp only [exOf, Exit.inBlock, hi, if_false]
        exact hQ c' a' w' hs
    · rename_i r hne
      refine wp_block (HR _ _ _ _ he c a w h _ fun c' a' w' hs => ?_)
      have := hQ c' a' w' hs
      cases ex with
      | norm => exact this
      | exit i => exact (hne i st' he).elim
      | ret => exact this
  case loop x =>
    refine wp_loop_round hQg hQo ?_
    split at he
    · rename_i st1 hx
      refine HR _ _ _ _ hx c a w h _ fun c' a' w' hs => ?_
      exact HR _ _ _ _ he c' a' w' hs.rel _ fun c'' a'' w'' hs' => hQ c'' a'' w'' (hs.trans hs')
    · rename_i r hne
      refine HR _ _ _ _ he c a w h _ fun c' a' w' hs => ?_
      have := hQ c' a' w' hs
      cases ex with
      | norm => exact (hne st' he).elim
      | exit id => exact this
      | ret => exact this
  case scope x =>
    refine wp_scope_straight (HR _ _ _ _ he c a w h _ fun c' a' w' hs => ?_)
    have := hQ c' a' w' hs
    cases ex <;> exact this
  case exit id =>
    cases he
    exact wp_exit (hQ c a w (Step.self h))
  case ret =>
    cases he
    exact wp_ret (hQ c a w (Step.self h))

include HE HF in
theorem ev_ok (HD : DrawOk P E w0 B) : ∀ n, RecOk P E w0 B (ev E n)
  | 0 => fun code st ex st' he => by cases he
  | n + 1 => evStep_ok HE HF HD (ev_ok HD n)

end
end Ev
end Go.Proofs.YtadkimnpeachpaaGreatDoor
