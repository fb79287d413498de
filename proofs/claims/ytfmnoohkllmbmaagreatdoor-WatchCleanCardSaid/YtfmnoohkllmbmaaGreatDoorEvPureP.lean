/- The evaluator: EvPureP. -/
import Derived.Test.YtfmnoohkllmbmaaGreatDoorEvMapP
import Derived.Laws.Build
set_option linter.unusedVariables false
set_option linter.unusedSimpArgs false
namespace Go.Proofs.YtfmnoohkllmbmaaGreatDoor
namespace Ev
open Go.RowKit

def OpsR (c : Cx) (r : Operand → Option AV) (ρ : Operand → Value) (o : Op) : Prop := ∀ x ∈ o.operands, ∀ a, r x = some a → VR c a (ρ x)

section
variable {P : Program} {E : Env} (HE : EnvOk P E) {c : Cx} {B : Nat} {h : T ABk} {w : World} (H : HR c B h w)

theorem lenOf_ok {a : AV} {v : Value} {n : Nat} (hl : lenOf a = some n) (hv : VR c a v) : (Builtin.lenOf v).run P w = .ok n w := by
  cases hv <;> simp only [lenOf, Option.some.injEq] at hl <;> try cases hl
  all_goals first
    | (simp [Builtin.lenOf]; done)
    | (simp [Builtin.lenOf, bytesOfArray_length])

include H in
theorem evFirst_ok {a : AV} {v : Value} {size n : Nat} {xs : List AV} (he : evFirst h size n a = some xs) (hv : VR c a v) :
    ∃ arr, (Builtin.firstCells size n v).run P w = .ok arr w ∧ (Builtin.firstCells size n v).run P w.drew = .ok arr w.drew ∧ LR c xs arr.toList := by
  cases hv <;> simp only [evFirst] at he <;> try (cases he; done)
  case sl b o n' k b' hb =>
    obtain ⟨ys, h1, h2, h3⟩ := H.rd hb he
    have := run_loadCells_list (P := P) (w := w) ⟨b', o, none⟩ ys h3
    have this' := run_loadCells_list (P := P) (w := w.drew) ⟨b', o, none⟩ ys h3
    rw [h1] at this this'
    exact ⟨ys.toArray, by simp [Builtin.firstCells, this], by simp [Builtin.firstCells, this'], by simpa using h2⟩
  case gsl b l n' sz b' hb hk =>
    obtain ⟨ys, h1, h2, h3⟩ := H.rd hb he
    have := run_loadCells_list (P := P) (w := w) ⟨b', l * sz, none⟩ ys h3
    have this' := run_loadCells_list (P := P) (w := w.drew) ⟨b', l * sz, none⟩ ys h3
    rw [h1] at this this'
    exact ⟨ys.toArray, by simp [Builtin.firstCells, this], by simp [Builtin.firstCells, this'], by simpa using h2⟩
  case esl =>
    split at he
    · rename_i hn
      cases he
      have hn := Nat.eq_of_beq_eq_true hn
      subst hn
      exact ⟨#[], by simp [Builtin.firstCells, loadCells, loadCellsFrom], by simp [Builtin.firstCells, loadCells, loadCellsFrom], LR.nil c⟩
    · cases he
  case nilSl =>
    cases he
    exact ⟨#[], by simp [Builtin.firstCells], by simp [Builtin.firstCells], LR.nil c⟩

include HE H in
theorem evLen_ok {t : Nat} {a r : AV} {v : Value} {ts : Array Nat} {ty : Nat} (ht : ts[0]? = some t) (he : evLen E h t a = some r) (hv : VR c a v) :
    ∃ u, (Builtin.len_ ts ty #[v]).run P w = .ok u w ∧ VR c r u := by
  unfold evLen at he
  split at he
  · cases he
  · rename_i ti hti
    obtain ⟨D, hD, hk⟩ := (HE.ty _ _ hti).desc
    have hU := run_underlying hD w
    split at he <;> (try (rename_i hd; rw [hd] at hk; cases D <;> simp only [TDok] at hk))
    · cases he; cases hv
      rw [bytesOfArray_length]
      exact ⟨.int .i64 (.ofNat _), by simp [Builtin.len_, ht, hU, goInt], .int _ _⟩
    · cases he
      obtain ⟨rfl, rfl⟩ := hk
      exact ⟨.int .i64 (.ofNat _), by simp [Builtin.len_, ht, hU, goInt], .int _ _⟩
    · cases he; cases hv
      exact ⟨.int .i64 0, by simp [Builtin.len_, ht, hU, goInt], .int _ _⟩
    · cases he; cases hv
      exact ⟨.int .i64 0, by simp [Builtin.len_, ht, hU, goInt], .int _ _⟩
    · cases he; cases hv
      exact ⟨.int .i64 (.ofNat _), by simp [Builtin.len_, ht, hU, goInt], .int _ _⟩
    · cases he; cases hv
      exact ⟨.int .i64 (.ofNat _), by simp [Builtin.len_, ht, hU, goInt], .int _ _⟩
    · cases he; cases hv
      exact ⟨.int .i64 0, by simp [Builtin.len_, ht, hU, goInt], .int _ _⟩
    · cases hv
      rename_i b' hb
      split at he
      · rename_i es cl hg
        cases he
        obtain ⟨o, ho, hr⟩ := H.bk _ _ b' hg hb
        cases o <;> simp only [BR] at hr
        rename_i arr cl'
        obtain ⟨_, _, es', hp, hk', _⟩ := hr
        have hl := hk'.len
        simp at hl
        have hpl := hp.length_eq
        refine ⟨.int .i64 (.ofNat es.length), ?_, .int _ _⟩
        simp [Builtin.len_, ht, hU, goInt, getObj, Sem.run, ho]
        omega
      · cases he
    all_goals cases he

theorem VR.boolE {b : Bool} {v : Value} (h : VR c (.bool b) v) : v = .bool b := by cases h; rfl
theorem VR.intE {k : IntKind} {n : Int} {v : Value} (h : VR c (.int k n) v) : v = .int k n := by cases h; rfl
theorem VR.strE {l : List Nat} {v : Value} (h : VR c (.str l) v) : ∃ s, v = .string s ∧ bytesOfArray s = l := by cases h; exact ⟨_, rfl, rfl⟩
theorem VR.ptrE {b o : Nat} {v : Value} (h : VR c (.ptr b o) v) : ∃ b', v = .pointer (some ⟨b', o, none⟩) ∧ c.ρ b = some b' := by cases h; exact ⟨_, rfl, ‹_›⟩
theorem VR.mapE {b : Nat} {v : Value} (h : VR c (.map b) v) : ∃ b', v = .map (some b') ∧ c.ρ b = some b' := by cases h; exact ⟨_, rfl, ‹_›⟩
theorem VR.nilMapE {v : Value} (h : VR c .nilMap v) : v = .map none := by cases h; rfl
theorem VR.slE {b o n k : Nat} {v : Value} (h : VR c (.sl b o n k) v) : ∃ b', v = .slice (some ⟨b', o, none⟩) n k ∧ c.ρ b = some b' := by cases h; exact ⟨_, rfl, ‹_›⟩
theorem VR.gslE {b l n sz : Nat} {v : Value} (h : VR c (.gsl b l n sz) v) : ∃ b', v = .slice (some ⟨b', l * sz, none⟩) n (c.κ b - l) ∧ c.ρ b = some b' ∧ l + n ≤ c.κ b := by
  cases h; exact ⟨_, rfl, ‹_›, ‹_›⟩
theorem VR.funcE {f : Nat} {xs ys : List AV} {v : Value} (h : VR c (.func f xs ys) v) : ∃ xs' ys', v = .func (.func f) xs' ys' ∧ LR c xs xs'.toList ∧ LR c ys ys'.toList := by
  cases h; exact ⟨_, _, rfl, ⟨‹_›, ‹_›⟩, ⟨‹_›, ‹_›⟩⟩
theorem VR.nilSlE {v : Value} (h : VR c .nilSl v) : v = .slice none 0 0 := by cases h; rfl

theorem nth_toList {fs : Array Field} {f u off : Nat} {bl : Bool} (h : nth (fs.toList.map fun f => (f.type, f.offset, f.name == "_")) f = some (u, off, bl)) :
    ∃ x, fs[f]? = some x ∧ x.type = u ∧ x.offset = off := by
  rw [nth_eq, List.getElem?_map] at h
  cases hx : fs.toList[f]? with
  | none => rw [hx] at h; cases h
  | some x =>
    rw [hx] at h
    cases h
    exact ⟨x, by rw [← Array.getElem?_toList]; exact hx, rfl, rfl⟩

include HE in
theorem pure_build {r : Operand → Option AV} {ρ : Operand → Value} {t : Nat} {ps : Array (Nat × Operand)} (hr : OpsR c r ρ (.build t ps)) {a : AV}
    (he : (match evParts r ps.toList, E.ty.get t with
    | some l, some ti => match ti.d with
      | .struct fs => (fillS E fs ti.zero l).map .agg
      | .array _ e => match E.ty.get e with
        | some ei => (fillR ei.size ti.zero l).map .agg
        | none => none
      | _ => none
    | _, _ => none) = some a) :
    ∃ v, (Instr.build t (ps.map fun (i, x) => (i, ρ x))).run P w = .ok v w ∧ VR c a v := by
  split at he
  · rename_i l ti hl hti
    have hT := HE.ty _ _ hti
    obtain ⟨D, hD, hk⟩ := hT.desc
    obtain ⟨i, z, az, hi, hs, hby, hz, hcv, hzc, _⟩ := hT.info
    have hzr : LR c ti.zero z.cells.toList := by rw [← hzc]; exact (cvt_ok c z az hcv).cells
    have hps := evParts_ok ps.toList l (fun x hx => hr x (by simpa [Op.operands] using hx)) hl
    have hpe : (ps.map fun (i, x) => (i, ρ x)).toList = ps.toList.map fun (i, x) => (i, ρ x) := by simp
    split at he
    · rename_i fs hd
      rw [hd] at hk
      cases D <;> simp only [TDok] at hk
      rename_i F
      subst hk
      cases hf : fillS E (F.toList.map fun f => (f.type, f.offset, f.name == "_")) ti.zero l with
      | none => rw [hf] at he; cases he
      | some cs =>
        rw [hf] at he
        cases he
        rw [fillS_eq] at hf
        have hplaces : ∀ (fs : List Field), (∀ f ∈ fs, (P.info? f.type).isSome = true) → ∃ places, fs.mapM (fun f => (P.info? f.type).map fun i => (f.offset, i.size)) = some places ∧
            ∀ i x, plS E (fs.map fun f => (f.type, f.offset, f.name == "_")) i = some x → places[i]? = some x := by
          intro fs
          induction fs with
          | nil => exact fun _ => ⟨[], by simp, fun i x hx => by simp [plS, nth] at hx⟩
          | cons f fs ih =>
            intro hall
            obtain ⟨pl, hpl, hpl'⟩ := ih (fun g hg => hall g (by simp [hg]))
            obtain ⟨i0, hi0⟩ := Option.isSome_iff_exists.1 (hall f (by simp))
            refine ⟨(f.offset, i0.size) :: pl, by simp [List.mapM_cons, hi0, hpl], fun i x hx => ?_⟩
            cases i with
            | zero =>
              simp only [plS, List.map_cons, nth] at hx
              split at hx
              · cases hx
              · rename_i ui hu
                cases hx
                obtain ⟨i1, _, _, h1, h2, _⟩ := (HE.ty _ _ hu).info
                rw [hi0] at h1
                cases h1
                simp [h2]
            | succ i =>
              simp only [plS, List.map_cons, nth] at hx
              simp only [List.getElem?_cons_succ]
              exact hpl' i x (by simpa [plS] using hx)
        obtain ⟨places, hpl, hpl'⟩ := hplaces F.toList (hT.fields F hD)
        obtain ⟨rarr, hrr, hlr⟩ := fillG_ok (place := fun i => places.toArray[i]?) (fun i x hx => by simpa using hpl' i x hx) l _ _ cs z.cells hps hzr hf
        refine ⟨.agg rarr, run_build w t _ rarr ?_, hlr.agg⟩
        unfold Program.built
        rw [hi, hD, hpe]
        simp only [hz, hpl]
        exact hrr
    · rename_i n e hd
      rw [hd] at hk
      cases D <;> simp only [TDok] at hk
      obtain ⟨rfl, rfl⟩ := hk
      split at he
      · rename_i ei hei
        cases hf : fillR ei.size ti.zero l with
        | none => rw [hf] at he; cases he
        | some cs =>
          rw [hf] at he
          cases he
          rw [fillR_eq] at hf
          obtain ⟨rarr, hrr, hlr⟩ := fillG_ok (place := fun i => some (i * ei.size, ei.size)) (fun i x hx => hx) l _ _ cs z.cells hps hzr hf
          refine ⟨.agg rarr, run_build w t _ rarr ?_, hlr.agg⟩
          unfold Program.built
          obtain ⟨i1, _, _, h1, h2, _⟩ := (HE.ty _ _ hei).info
          rw [hi, hD, hpe]
          simp only [hz, h1, h2]
          exact hrr
      · cases he
    · cases he
  · cases he

def foundOr : Option (Nat × Value) → Value → Value
  | some (_, v), _ => v
  | none, z => z

theorem lookAns_none (z : Option AV) (ok : Bool) : lookAns none z ok = none := by cases ok <;> rfl

theorem look_fin {z : Value} {az : AV} {ei : TI} {ok : Bool} {a : AV} {es : List MapEntry} {rr : Option AV} {r' : Option (Nat × Value)} (hzv : ei.zeroV = some az) (hzr : VR c az z) (hf : FR c es rr r')
    (hh : lookAns (some rr) (match ei.agg with | true => some (AV.agg ei.zero) | false => nth ei.zero 0) ok = some a) :
    VR c a (if ok then .tuple #[foundOr r' z, .bool r'.isSome] else foundOr r' z) := by
  have hzv' : (match ei.agg with | true => some (AV.agg ei.zero) | false => nth ei.zero 0) = some az := hzv
  rw [hzv'] at hh
  have two : ∀ (x : AV) (v : Value) (b : Bool), VR c x v → VR c (.tup [x, .bool b]) (.tuple #[v, .bool b]) := fun x v b hx => LR.tup (LR.cons hx (LR.cons (.bool b) (LR.nil c)))
  cases hf with
  | none =>
    cases ok
    · cases hh; exact hzr
    · cases hh; exact two _ _ _ hzr
  | some hv =>
    cases ok
    · cases hh; exact hv
    · cases hh; exact two _ _ _ hv

include HE H in
theorem pure_lookup {r : Operand → Option AV} {ρ : Operand → Value} {t : Nat} {x i : Operand} {ok : Bool} (hr : OpsR c r ρ (.lookup t x i ok)) {a : AV} {o : Oper} (ho : o.op = .lookup t x i ok)
    (he : evPure E r h o = some a) : ∃ v, (Instr.lookup t (ρ x) (ρ i) ok).run P w = .ok v w ∧ VR c a v := by
  obtain ⟨dst, op, type, pos, after, guard⟩ := o
  subst ho
  simp only [evPure] at he
  split at he
  · rename_i v key ti hx hi hti
    have rx := hr x (by simp [Op.operands]) v hx
    have ri := hr i (by simp [Op.operands]) key hi
    have hT := HE.ty _ _ hti
    obtain ⟨D, hD, hk⟩ := hT.desc
    have hU := run_underlying hD w
    split at he
    · rename_i k e hd
      rw [hd] at hk
      cases D <;> simp only [TDok] at hk
      obtain ⟨rfl, rfl⟩ := hk
      rename_i k e
      split at he
      · cases he
      · rename_i ei hei
        have hE := HE.ty _ _ hei
        obtain ⟨z, az, hz, hzr, hzc, hzv⟩ := hE.zeroValue w c
        obtain ⟨De, hDe, hke⟩ := hE.desc
        -- the zero of an element
        -- the table
        have main : ∀ (es : List (AV × AV)) (arr : Array MapEntry) (rr : Option AV) (es' : List (AV × AV)), keyOk E 20 k key = true → findE E k key es = some rr → es'.Perm es →
            LR c (es'.map (·.1)) (arr.toList.map (·.key)) → LR c (es'.map (·.2)) (arr.toList.map (·.val)) →
            ∃ r', (Instr.checkKey arr.isEmpty 10000 k (ρ i)).run P w = .ok () w ∧ (Instr.findKey k (ρ i) arr.toList).run P w = .ok r' w ∧ FR c arr.toList rr r' := by
          intro es arr rr es' hko hf hp h1 h2
          have hck := keyOk_ok HE w 20 10000 k arr.isEmpty key (ρ i) (by decide) ri hko
          have hDk : ∃ Dk, P.underlying k = some Dk := by
            unfold keyOk at hko
            split at hko
            · cases hko
            · rename_i tk htk
              obtain ⟨Dk, hDk, _⟩ := (HE.ty _ _ htk).desc
              exact ⟨Dk, hDk⟩
          obtain ⟨Dk, hDk⟩ := hDk
          obtain ⟨r', g1, g2⟩ := findKey_ok HE w hDk ri hp h1 h2 hf
          exact ⟨r', hck, g1, g2⟩
        have fin : ∀ (arr : Array MapEntry) (rr : Option AV) (r' : Option (Nat × Value)), FR c arr.toList rr r' → lookAns (some rr) (match ei.agg with | true => some (AV.agg ei.zero) | false => nth ei.zero 0) ok = some a →
            VR c a (if ok then .tuple #[foundOr r' z, .bool r'.isSome] else foundOr r' z) := fun arr rr r' hf hh => look_fin hzv hzr hf hh
        cases hko : keyOk E 20 k key with
        | false => rw [hko] at he; dsimp only at he; rw [lookAns_none] at he; cases he
        | true =>
          rw [hko] at he
          dsimp only at he
          generalize ρ x = vx at rx ⊢
          cases rx with
          | nilMap =>
            dsimp only at he
            obtain ⟨r', g1, g2, g3⟩ := main [] #[] none [] hko rfl .nil (LR.nil c) (LR.nil c)
            refine ⟨_, ?_, fin #[] none r' g3 he⟩
            cases g3
            simp only [Instr.lookup, Sem.run_bind, hU, Result.andThen_ok, Sem.run_pure, g1, g2, hz]
            cases ok <;> rfl
          | map hb =>
            rename_i b b'
            dsimp only at he
            cases hg : h.get b with
            | none => rw [hg] at he; dsimp only at he; rw [lookAns_none] at he; cases he
            | some bk =>
              cases bk with
              | map es cl =>
                rw [hg] at he
                dsimp only at he
                cases hf : findE E k key es with
                | none => rw [hf] at he; rw [lookAns_none] at he; cases he
                | some rr =>
                  rw [hf] at he
                  obtain ⟨o, ho, hbr⟩ := H.bk b _ b' hg hb
                  cases o <;> simp only [BR] at hbr
                  rename_i arr cl'
                  obtain ⟨_, _, es', hp, hk1, hk2⟩ := hbr
                  obtain ⟨r', g1, g2, g3⟩ := main es arr rr es' hko hf hp hk1 hk2
                  refine ⟨_, ?_, fin arr rr r' g3 he⟩
                  have hgo : (getObj b').run P w = .ok (.map arr cl') w := by simp [getObj, Sem.run, ho]
                  simp only [Instr.lookup, Sem.run_bind, hU, Result.andThen_ok, Sem.run_pure, hgo, g1, g2]
                  cases g3
                  · simp only [Sem.run_bind, hz, Result.andThen_ok, Sem.run_pure]
                    cases ok <;> rfl
                  · simp only [Sem.run_bind, Result.andThen_ok, Sem.run_pure]
                    cases ok <;> rfl
              | _ => rw [hg] at he; dsimp only at he; rw [lookAns_none] at he; cases he
          | _ => dsimp only at he; rw [lookAns_none] at he; cases he
    · cases he
  · cases he

include HE H in
theorem evPure_ok {r : Operand → Option AV} {ρ : Operand → Value} (o : Oper) (hr : OpsR c r ρ o.op) {a : AV} (he : evPure E r h o = some a) :
    ∃ v, (execOp ρ o).run P w = .ok (.value v) w ∧ VR c a v := by
  have lift : ∀ (s : Sem Value) (v : Value), s.run P w = .ok v w → (do pure (Next.value (← s)) : Sem Next).run P w = .ok (.value v) w := fun s v hs => by
    simp only [Sem.run_bind, hs, Result.andThen_ok, Sem.run_pure]
  obtain ⟨dst, op, type, pos, after, guard⟩ := o
  cases op
  case lookup t x i ok =>
    obtain ⟨v, h1, h2⟩ := pure_lookup HE H hr rfl he
    exact ⟨v, lift _ _ h1, h2⟩
  case build t ps =>
    simp only [evPure] at he
    obtain ⟨v, h1, h2⟩ := pure_build HE (w := w) hr he
    exact ⟨v, lift _ _ h1, h2⟩
  case makeFunc fn first caps =>
    cases fn <;> simp only [evPure] at he <;> try (cases he; done)
    split at he
    · rename_i xs ys hx hy
      cases he
      have h1 := evOperands_ok _ xs (fun x hx => hr x (by simp [Op.operands] at hx ⊢; exact .inl hx)) hx
      have h2 := evOperands_ok _ ys (fun x hx => hr x (by simp [Op.operands] at hx ⊢; exact .inr hx)) hy
      exact ⟨.func (.func _) (first.map ρ) (caps.map ρ), lift _ _ (by simp [Instr.makeFunc]), .func (by simpa using h1.len) (by simpa using h1.at_) (by simpa using h2.len) (by simpa using h2.at_)⟩
    · cases he
  case call cl =>
    obtain ⟨callee, args, argTypes⟩ := cl
    cases callee <;> simp only [evPure] at he <;> try (cases he; done)
    rename_i b
    have hv : execOp ρ ⟨dst, .call ⟨.builtin b, args, argTypes⟩, type, pos, after, guard⟩ = builtin b argTypes type (args.map fun | .const _ => true | _ => false) (args.map ρ) := rfl
    rw [hv]
    split at he
    · cases he
    · rename_i l hl
      have hL := evOperands_ok args.toList l (fun x hx => hr x (by simp [Op.operands, Call.operands]; simpa using hx)) hl
      have hA : (args.map ρ).toList = args.toList.map ρ := by simp
      rw [← hA] at hL
      generalize args.map ρ = vs at hL
      obtain ⟨vs⟩ := vs
      simp only at hL
      have hnt : ∀ t, nth argTypes.toList 0 = some t → argTypes[0]? = some t := fun t ht => by rw [nth_eq, Array.getElem?_toList] at ht; exact ht
      split at he
      · -- len
        rename_i x
        obtain ⟨v, rfl⟩ : ∃ v, vs = [v] := by
          have := hL.len
          match vs, this with
          | [v], _ => exact ⟨v, rfl⟩
        split at he
        · rename_i t ht
          obtain ⟨u, h1, h2⟩ := evLen_ok HE H (ty := type) (hnt t ht) he hL.head
          exact ⟨u, lift _ _ h1, h2⟩
        · cases he
      · -- cap
        rename_i x
        obtain ⟨v, rfl⟩ : ∃ v, vs = [v] := by
          have := hL.len
          match vs, this with
          | [v], _ => exact ⟨v, rfl⟩
        split at he
        · rename_i t ht
          split at he
          · rename_i ti hti
            obtain ⟨D, hD, hk⟩ := (HE.ty _ _ hti).desc
            have hU := run_underlying hD w
            split at he
            · rename_i e b o n k hd
              rw [hd] at hk
              cases D <;> simp only [TDok] at hk
              cases he
              obtain ⟨b', h1, _⟩ := hL.head.slE
              exact ⟨.int .i64 (.ofNat k), lift _ _ (by simp [Builtin.cap_, hnt t ht, hU, h1, goInt]), .int _ _⟩
            · rename_i e hd
              rw [hd] at hk
              cases D <;> simp only [TDok] at hk
              cases he
              have h1 := hL.head.nilSlE
              exact ⟨.int .i64 0, lift _ _ (by simp [Builtin.cap_, hnt t ht, hU, h1, goInt]), .int _ _⟩
            · cases he
          · cases he
        · cases he
      · -- max
        rename_i k x k' y
        obtain ⟨v, u, rfl⟩ : ∃ v u, vs = [v, u] := by
          have := hL.len
          match vs, this with
          | [v, u], _ => exact ⟨v, u, rfl⟩
        split at he
        · cases he
          have h1 := hL.head.intE
          have h2 := hL.tail.head.intE
          subst h1
          subst h2
          refine ⟨_, lift _ _ (run_max_int2 w argTypes type k k' x y), ?_⟩
          rw [leI_eq]
          by_cases hxy : y ≤ x
          · simp only [hxy, decide_true]
            rw [if_neg (by omega)]
            exact .int _ _
          · simp only [hxy, decide_false]
            rw [if_pos (by omega)]
            exact .int _ _
        · cases he
      · -- min
        rename_i k x k' y
        obtain ⟨v, u, rfl⟩ : ∃ v u, vs = [v, u] := by
          have := hL.len
          match vs, this with
          | [v, u], _ => exact ⟨v, u, rfl⟩
        split at he
        · cases he
          have h1 := hL.head.intE
          have h2 := hL.tail.head.intE
          subst h1
          subst h2
          refine ⟨_, lift _ _ (run_min_int2 w argTypes type k k' x y), ?_⟩
          rw [leI_eq]
          by_cases hxy : x ≤ y
          · simp only [hxy, decide_true]
            rw [if_neg (by omega)]
            exact .int _ _
          · simp only [hxy, decide_false]
            rw [if_pos (by omega)]
            exact .int _ _
        · cases he
      · cases he
  all_goals simp only [evPure] at he
  all_goals try (cases he; done)
  case move x => exact ⟨ρ x, rfl, hr x (by simp [Op.operands]) a he⟩
  case assign x => exact ⟨ρ x, rfl, hr x (by simp [Op.operands]) a he⟩
  case pick x y z =>
    split at he
    · rename_i hx
      have h1 := (hr x (by simp [Op.operands]) _ hx).boolE
      exact ⟨ρ y, by simp [execOp, h1, asBool], hr y (by simp [Op.operands]) a he⟩
    · rename_i hx
      have h1 := (hr x (by simp [Op.operands]) _ hx).boolE
      exact ⟨ρ z, by simp [execOp, h1, asBool], hr z (by simp [Op.operands]) a he⟩
    · cases he
  case load t x =>
    split at he
    · rename_i b o ti hx hti
      obtain ⟨b', h1, hb⟩ := (hr x (by simp [Op.operands]) _ hx).ptrE
      obtain ⟨v, h2, h3⟩ := H.loadVar (HE.ty _ _ hti) hb he
      exact ⟨v, lift _ _ (by simp [Instr.loadAt, Instr.sureAddr, h1, h2]), h3⟩
    · cases he
  case nilCheck x =>
    split at he
    · rename_i b o hx
      cases he
      have h0 := hr x (by simp [Op.operands]) _ hx
      obtain ⟨b', h1, hb⟩ := h0.ptrE
      exact ⟨ρ x, by simp [execOp, h1], h0⟩
    · rename_i f xs ys hx
      cases he
      have h0 := hr x (by simp [Op.operands]) _ hx
      obtain ⟨xs', ys', h1, _, _⟩ := h0.funcE
      exact ⟨ρ x, by simp [execOp, h1], h0⟩
    · cases he
  case unOp op t x =>
    split at he
    · rename_i b hx
      cases he
      have h1 := (hr x (by simp [Op.operands]) _ hx).boolE
      exact ⟨.bool (!b), lift _ _ (by simp [Op.unary, h1]), .bool _⟩
    · rename_i k n hx
      cases he
      have h1 := (hr x (by simp [Op.operands]) _ hx).intE
      rw [wrapI_eq]
      exact ⟨.int k (k.wrap (0 - n)), lift _ _ (by simp [Op.unary, h1, Op.intArith]), .int _ _⟩
    · cases he
  case binOp op t x y yt =>
    split at he
    · rename_i va vb hx hy
      obtain ⟨v, h1, h2⟩ := evBin_ok HE w (hr x (by simp [Op.operands]) _ hx) (hr y (by simp [Op.operands]) _ hy) he
      exact ⟨v, lift _ _ h1, h2⟩
    · cases he
  case convert s d x =>
    split at he
    · rename_i va si di hx hsi hdi
      have h0 := hr x (by simp [Op.operands]) _ hx
      obtain ⟨Ds, hDs, hks⟩ := (HE.ty _ _ hsi).desc
      obtain ⟨Dd, hDd, hkd⟩ := (HE.ty _ _ hdi).desc
      have hUs := run_underlying hDs w
      have hUd := run_underlying hDd w
      split at he
      · rename_i k k' n hd
        cases he
        rw [hd] at hkd
        cases Dd <;> simp only [TDok] at hkd
        subst hkd
        have h1 := h0.intE
        rw [wrapI_eq]
        exact ⟨.int _ (IntKind.wrap _ n), lift _ _ (by simp [convert, h1, hUs, hUd, Conv.intToInt]), .int _ _⟩
      · rename_i s hd
        cases he
        rw [hd] at hkd
        cases Dd <;> simp only [TDok] at hkd
        obtain ⟨s', h1, rfl⟩ := h0.strE
        exact ⟨.string s', lift _ _ (by simp [convert, h1, hUs, hUd]), .str⟩
      · cases he
    · cases he
  case makeInterface t x =>
    split at he
    · rename_i va ti hx hti
      have h0 := hr x (by simp [Op.operands]) _ hx
      obtain ⟨D, hD, hk⟩ := (HE.ty _ _ hti).desc
      split at he
      · cases he
      · rename_i hd
        cases he
        refine ⟨.iface t (ρ x), lift _ _ (run_makeInterface w t _ ?_), .iface h0⟩
        unfold Program.concrete
        rw [hD]
        cases hti' : ti.d <;> rw [hti'] at hk <;> cases D <;> simp only [TDok] at hk <;> first | rfl | exact (hd _ hti').elim
    · cases he
  case slice t x lo hi mx =>
    have opt : ∀ (o : Option Operand) (a : Option AV), (∀ q ∈ o, q ∈ (Op.slice t x lo hi mx).operands) →
        (match o with | none => some none | some x => match r x with | some v => some (some v) | none => none) = some a → OR c a (o.map ρ) := by
      intro o a hin h
      cases o with
      | none => cases h; exact .none
      | some y =>
        simp only at h
        split at h
        · rename_i v hv
          cases h
          exact .some (hr y (hin y rfl) v hv)
        · cases h
    split at he
    · rename_i v l hh m hx hl hhi hm
      have o1 := opt lo l (fun y hy => by cases hy; simp [Op.operands]) hl
      have o2 := opt hi hh (fun y hy => by cases hy; simp [Op.operands]) hhi
      have o3 := opt mx m (fun y hy => by cases hy; simp [Op.operands]) hm
      obtain ⟨u, h1, h2⟩ := evSlice_ok HE w o1 o2 o3 (hr x (by simp [Op.operands]) _ hx) he
      exact ⟨u, lift _ _ h1, h2⟩
    · cases he
  case fieldAddr t x f =>
    split at he
    · rename_i b o ti hx hti
      obtain ⟨b', h1, hb⟩ := (hr x (by simp [Op.operands]) _ hx).ptrE
      obtain ⟨D, hD, hk⟩ := (HE.ty _ _ hti).desc
      have hU := run_underlying hD w
      split at he
      · rename_i fs hd
        rw [hd] at hk
        cases D <;> simp only [TDok] at hk
        subst hk
        split at he
        · rename_i u off bl hn
          obtain ⟨y, hy, rfl, rfl⟩ := nth_toList hn
          split at he
          · rename_i ui hui
            split at he
            · cases he
            · rename_i hz
              cases he
              have hz := Nat.ne_of_beq_eq_false hz
              refine ⟨.pointer (some ⟨b', o + y.offset, none⟩), lift _ _ ?_, .ptr hb⟩
              simp [Instr.fieldAt, hU, hy, Instr.sureAddr, h1, fieldPlace, (HE.ty _ _ hui).size w, hz, Addr.add_mid]
          · cases he
        · cases he
      · cases he
    · cases he
  case field t x f =>
    split at he
    · rename_i cs ti hx hti
      obtain ⟨arr, h1, hl⟩ := (hr x (by simp [Op.operands]) _ hx).aggL
      obtain ⟨D, hD, hk⟩ := (HE.ty _ _ hti).desc
      have hU := run_underlying hD w
      split at he
      · rename_i fs hd
        rw [hd] at hk
        cases D <;> simp only [TDok] at hk
        subst hk
        split at he
        · rename_i u off bl hn
          obtain ⟨y, hy, rfl, rfl⟩ := nth_toList hn
          split at he
          · rename_i ui hui
            obtain ⟨v, h2, h3⟩ := partE_ok (HE.ty _ _ hui) hl he w
            exact ⟨v, lift _ _ (by simp [Instr.field, hU, hy, h1, asAgg, h2]), h3⟩
          · cases he
        · cases he
      · cases he
    · cases he
  case indexAddr t x i =>
    split at he
    · rename_i v iv ti hx hi hti
      have rx := hr x (by simp [Op.operands]) _ hx
      have ri := hr i (by simp [Op.operands]) _ hi
      obtain ⟨D, hD, hk⟩ := (HE.ty _ _ hti).desc
      have hU := run_underlying hD w
      split at he
      · rename_i j e b o n k hj hd
        rw [hd] at hk
        cases D <;> simp only [TDok] at hk
        subst hk
        obtain ⟨ik, h2⟩ := natOf_ok hj ri
        obtain ⟨b', h1, hb⟩ := rx.slE
        split at he
        · rename_i ei hlt hei
          cases he
          have hlt : j < n := by simpa [Nat.blt_eq] using hlt
          refine ⟨.pointer (some ⟨b', o + j * ei.size, none⟩), lift _ _ ?_, .ptr hb⟩
          simp [Instr.indexAt, asIntOf, h2, h1, hU, hlt, (HE.ty _ _ hei).size w, Addr.add_mid]
        · cases he
      · rename_i j e b l n sz hj hd
        rw [hd] at hk
        cases D <;> simp only [TDok] at hk
        subst hk
        obtain ⟨ik, h2⟩ := natOf_ok hj ri
        obtain ⟨b', h1, hb, _⟩ := rx.gslE
        split at he
        · rename_i ei hlt hei
          cases he
          have hlt : j < n := by simpa [Nat.blt_eq] using hlt
          refine ⟨.pointer (some ⟨b', l * sz + j * ei.size, none⟩), lift _ _ ?_, .ptr hb⟩
          simp [Instr.indexAt, asIntOf, h2, h1, hU, hlt, (HE.ty _ _ hei).size w, Addr.add_mid]
        · cases he
      · rename_i j n e b o hj hd
        rw [hd] at hk
        cases D <;> simp only [TDok] at hk
        obtain ⟨rfl, rfl⟩ := hk
        obtain ⟨ik, h2⟩ := natOf_ok hj ri
        obtain ⟨b', h1, hb⟩ := rx.ptrE
        split at he
        · rename_i ei hlt hei
          cases he
          rw [Nat.blt_eq] at hlt
          refine ⟨.pointer (some ⟨b', o + j * ei.size, none⟩), lift _ _ ?_, .ptr hb⟩
          simp [Instr.indexAt, Instr.sureAddr, asIntOf, h2, h1, hU, hlt, (HE.ty _ _ hei).size w, Addr.add_mid]
        · cases he
      · cases he
    · cases he
  case index t x i =>
    split at he
    · rename_i v iv ti hx hi hti
      have rx := hr x (by simp [Op.operands]) _ hx
      have ri := hr i (by simp [Op.operands]) _ hi
      obtain ⟨D, hD, hk⟩ := (HE.ty _ _ hti).desc
      have hU := run_underlying hD w
      split at he
      · rename_i j s hj hd
        rw [hd] at hk
        cases D <;> simp only [TDok] at hk
        obtain ⟨ik, h2⟩ := natOf_ok hj ri
        obtain ⟨s', h1, rfl⟩ := rx.strE
        cases hn : nth (bytesOfArray s') j with
        | none => rw [hn] at he; cases he
        | some b =>
          rw [hn] at he
          cases he
          rw [nth_eq] at hn
          unfold bytesOfArray at hn
          rw [List.getElem?_map] at hn
          cases hg : s'.data.toList[j]? with
          | none => rw [hg] at hn; cases hn
          | some u =>
            rw [hg] at hn
            cases hn
            have hlt : j < s'.size := by
              have := (List.getElem?_eq_some_iff.1 hg).1
              simpa using this
            have hu : s'[j]? = some u := by
              rw [getElem?_pos s' j hlt]
              rw [Array.getElem?_toList, Array.getElem?_eq_getElem (show j < s'.data.size from hlt)] at hg
              exact hg
            refine ⟨.int .u8 (.ofNat u.toNat), lift _ _ ?_, .int _ _⟩
            simp [Instr.index, asIntOf, h2, h1, hU, hu]
      · rename_i j n e cs hj hd
        rw [hd] at hk
        cases D <;> simp only [TDok] at hk
        obtain ⟨rfl, rfl⟩ := hk
        obtain ⟨ik, h2⟩ := natOf_ok hj ri
        obtain ⟨arr, h1, hl⟩ := rx.aggL
        split at he
        · rename_i ei hlt hei
          rw [Nat.blt_eq] at hlt
          obtain ⟨v, h3, h4⟩ := partE_ok (HE.ty _ _ hei) hl he w
          refine ⟨v, lift _ _ ?_, h4⟩
          simp [Instr.index, asIntOf, h2, h1, hU, hlt, (HE.ty _ _ hei).size w, h3]
        · cases he
      · cases he
    · cases he
  case extract x i =>
    split at he
    · rename_i vs hx
      obtain ⟨arr, h1, hl⟩ := (hr x (by simp [Op.operands]) _ hx).tupL
      rw [nth_eq] at he
      obtain ⟨v, hv, h3⟩ := hl.get he
      rw [Array.getElem?_toList] at hv
      exact ⟨v, lift _ _ (by simp [Instr.extract, h1, hv]), h3⟩
    · cases he

end
end Ev
end Go.Proofs.YtfmnoohkllmbmaaGreatDoor
