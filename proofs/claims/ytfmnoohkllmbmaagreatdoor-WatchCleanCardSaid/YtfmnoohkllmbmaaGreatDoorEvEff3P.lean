/- The evaluator: EvEff3P. -/
import Derived.Test.YtfmnoohkllmbmaaGreatDoorEvEff2P
set_option linter.unusedVariables false
set_option linter.unusedSimpArgs false
namespace Go.Proofs.YtfmnoohkllmbmaaGreatDoor
namespace Ev
open Go.RowKit

section
variable {P : Program} {E : Env} (HE : EnvOk P E) {c : Cx} {B : Nat} {h : T ABk} {w w0 : World} {nx : Nat} (S : SR w0 B c h nx w)

theorem EffOk.skip {s : Sem Unit} {h' : T ABk} {nx' : Nat} {c' : Cx} {w' : World} (hr : s.run P w = .ok () w') (he : c.ext nx c') (hS : SR w0 B c' h' nx' w') (hn : nx ≤ nx')
    (hu : ∀ i, i < nx → c.ρ i = none → h'.get i = h.get i) : EffOk P w0 B c h nx w (do s; pure Next.skip) (.tup []) h' nx' :=
  ⟨c', w', undef, .inr ⟨by simp only [Sem.run_bind, hr, Result.andThen_ok, Sem.run_pure], rfl⟩, he, hS, LR.tup (LR.nil c'), hn, hu⟩

include HE S in
theorem eff_map {t : Nat} {k x : AV} {mv kv xv : Value} {b : Nat} {ti : TI} {es : List (AV × AV)} {cl kt e : Nat} (hm : VR c (.map b) mv) (hk : VR c k kv) (hx : VR c x xv)
    (hti : E.ty.get t = some ti) (hd : ti.d = .map kt e) (hg : h.get b = some (.map es cl)) (hko : keyOk E 20 kt k = true) (hf : findE E kt k es = some none) :
    EffOk P w0 B c h nx w (do Instr.mapUpdate t mv kv xv; pure Next.skip) (.tup []) (h.put (some (.map (es ++ [(k, x)]) (cl + 1))) b) nx := by
  obtain ⟨b', rfl, hb⟩ := hm.mapE
  obtain ⟨D, hD, hkk⟩ := (HE.ty _ _ hti).desc
  rw [hd] at hkk
  cases D <;> simp only [TDok] at hkk
  obtain ⟨rfl, rfl⟩ := hkk
  rename_i kt e
  have hU := run_underlying hD w
  obtain ⟨o, ho, hbr⟩ := S.heap.bk b _ b' hg hb
  cases o <;> simp only [BR] at hbr
  rename_i arr cl'
  obtain ⟨rfl, hBb, es', hp, hk1, hk2⟩ := hbr
  have hck := keyOk_ok HE w 20 10000 kt false k kv (by decide) hk hko
  have hDk : ∃ Dk, P.underlying kt = some Dk := by
    unfold keyOk at hko
    split at hko
    · cases hko
    · rename_i tk htk
      obtain ⟨Dk, hDk, _⟩ := (HE.ty _ _ htk).desc
      exact ⟨Dk, hDk⟩
  obtain ⟨Dk, hDk⟩ := hDk
  obtain ⟨r', g1, g2⟩ := findKey_ok HE w hDk hk hp hk1 hk2 hf
  cases g2
  have hgo : (getObj b').run P w = .ok (.map arr cl') w := by simp [getObj, Sem.run, ho]
  have hlt : b' < w.heap.size := (Array.getElem?_eq_some_iff.1 ho).1
  have hso : ∀ o', (setObj b' o').run P w = .ok () { w with heap := w.heap.setIfInBounds b' o' } := fun o' => by simp [setObj, Sem.run, ho]
  have hrun : (Instr.mapUpdate t (.map (some b')) kv xv).run P w = .ok () { w with heap := w.heap.setIfInBounds b' (.map (arr.push { key := kv, val := xv, born := cl' }) (cl' + 1)) } := by
    simp only [Instr.mapUpdate, Sem.run_bind, hU, Result.andThen_ok, hgo, hck, g1, hso]
  have hoth : ∀ j, j ≠ b' → (w.heap.setIfInBounds b' (.map (arr.push { key := kv, val := xv, born := cl' }) (cl' + 1)))[j]? = w.heap[j]? := fun j hj => Array.getElem?_setIfInBounds_ne (Ne.symm hj)
  refine EffOk.skip hrun (Cx.ext.refl _ _) ⟨?_, ?_, S.heap.write hg hb (o := .map (arr.push { key := kv, val := xv, born := cl' }) (cl' + 1)) ?_ hoth ?_, S.fresh, T.top_put S.top (S.top b _ hg)⟩ (Nat.le_refl _) (fun i hi hn => ?_)
  · exact ⟨S.below.os, S.below.tape, S.below.output, by simpa using S.below.size, fun j hj => (hoth j (by omega)).trans (S.below.block j hj)⟩
  · simpa using S.size
  · simp [hlt]
  · refine ⟨rfl, hBb, es' ++ [(k, x)], hp.append_right _, ?_, ?_⟩
    · simpa using hk1.append (LR.cons hk (LR.nil c))
    · simpa using hk2.append (LR.cons hx (LR.nil c))
  · rw [T.get_put, if_neg]
    intro e
    rw [e, hb] at hn
    cases hn

include HE S in
theorem evEff_ok {r : Operand → Option AV} {ρ : Operand → Value} (o : Oper) (hr : OpsR c r ρ o.op) {v : AV} {h' : T ABk} {nx' : Nat} (he : evEff E r h nx o = some (v, h', nx')) :
    EffOk P w0 B c h nx w (execOp ρ o) v h' nx' := by
  obtain ⟨dst, op, type, pos, after, guard⟩ := o
  cases op
  case store t a x =>
    simp only [evEff] at he
    split at he
    · rename_i b o vx ti ha hx hti
      have h0 := hr x (by simp [Op.operands]) _ hx
      obtain ⟨b', h1, hb⟩ := (hr a (by simp [Op.operands]) _ ha).ptrE
      split at he
      · rename_i hlen
        have hlen := Nat.eq_of_beq_eq_true hlen
        cases hw : wr h b o vx.cells with
        | none => rw [hw] at he; cases he
        | some h2 =>
          rw [hw] at he
          cases he
          have hcl := h0.cells
          have hl := hcl.len
          simp at hl
          obtain ⟨w', g1, g2, g3⟩ := SR.store (P := P) S hb hw hcl
          refine EffOk.skip (s := Instr.storeAt t (ρ a) (ρ x)) ?_ (Cx.ext.refl _ _) g2 (Nat.le_refl _) g3
          simp only [Instr.storeAt, h1, Instr.sureAddr, Sem.run_bind, Sem.run_pure, Result.andThen_ok, storeVar, (HE.ty _ _ hti).size w, Sem.run_ite]
          rw [if_neg (by omega)]
          simpa using g1
      · cases he
    · cases he
  case mapUpdate t m k x =>
    simp only [evEff] at he
    split at he
    · rename_i b key vx hm hk hx
      split at he
      · rename_i ti es cl hti hg
        split at he
        · rename_i kt e hd
          split at he
          · rename_i hko hf
            cases he
            exact eff_map HE S (hr m (by simp [Op.operands]) _ hm) (hr k (by simp [Op.operands]) _ hk) (hr x (by simp [Op.operands]) _ hx) hti hd hg hko hf
          · cases he
        · cases he
      · cases he
    · cases he
  case insert t m k x =>
    simp only [evEff] at he
    split at he
    · rename_i b key vx hm hk hx
      split at he
      · rename_i ti es cl hti hg
        split at he
        · rename_i kt e hd
          split at he
          · rename_i hko hf
            cases he
            exact eff_map HE S (hr m (by simp [Op.operands]) _ hm) (hr k (by simp [Op.operands]) _ hk) (hr x (by simp [Op.operands]) _ hx) hti hd hg hko hf
          · cases he
        · cases he
      · cases he
    · cases he
  case call cl =>
    obtain ⟨callee, args, argTypes⟩ := cl
    cases callee <;> simp only [evEff] at he <;> try (cases he; done)
    rename_i b
    have hv : execOp ρ ⟨dst, .call ⟨.builtin b, args, argTypes⟩, type, pos, after, guard⟩ = builtin b argTypes type (args.map fun | .const _ => true | _ => false) (args.map ρ) := rfl
    rw [hv]
    split at he
    · cases he
    · rename_i l hl
      have hL := evOperands_ok args.toList l (fun x hx => hr x (by simp [Op.operands, Call.operands]; simpa using hx)) hl
      have hA : (args.map ρ).toList = args.toList.map ρ := by simp
      rw [← hA] at hL
      generalize args.map ρ = vs at hL
      obtain ⟨vs⟩ := vs
      simp only at hL
      have hnt : ∀ j t, nth argTypes.toList j = some t → argTypes[j]? = some t := fun j t ht => by rw [nth_eq, Array.getElem?_toList] at ht; exact ht
      split at he
      · -- append
        rename_i s x
        obtain ⟨sv, xv, rfl⟩ : ∃ v u, vs = [v, u] := by
          have := hL.len
          match vs, this with
          | [v, u], _ => exact ⟨v, u, rfl⟩
        split at he
        · rename_i t u ht hu
          split at he
          · rename_i ti ui hti hui
            obtain ⟨D, hD, hk⟩ := (HE.ty _ _ hti).desc
            obtain ⟨D', hD', hk'⟩ := (HE.ty _ _ hui).desc
            split at he
            · rename_i e e' hd hd'
              rw [hd] at hk
              rw [hd'] at hk'
              cases D <;> simp only [TDok] at hk
              cases D' <;> simp only [TDok] at hk'
              subst hk
              subst hk'
              split at he
              · rename_i ei m hei hm
                split at he
                · rename_i news hf
                  exact evAppend_ok S (hnt 0 t ht) (hnt 1 u hu) hD hD' (HE.ty _ _ hei) hL.head hL.tail.head hm hf he
                · cases he
              · cases he
            · cases he
          · cases he
        · cases he
      · -- copy
        rename_i d s
        obtain ⟨dv, sv, rfl⟩ : ∃ v u, vs = [v, u] := by
          have := hL.len
          match vs, this with
          | [v, u], _ => exact ⟨v, u, rfl⟩
        split at he
        · rename_i t ht
          split at he
          · rename_i ti hti
            obtain ⟨D, hD, hk⟩ := (HE.ty _ _ hti).desc
            have hU := run_underlying hD w
            split at he
            · rename_i e hd
              rw [hd] at hk
              cases D <;> simp only [TDok] at hk
              subst hk
              split at he
              · rename_i ei hei
                have hS := (HE.ty _ _ hei).size w
                cases hc : evCopy h ei.size d s with
                | none => rw [hc] at he; cases he
                | some p =>
                  rw [hc] at he
                  cases he
                  unfold evCopy at hc
                  split at hc
                  · rename_i dn sn hdn hsn
                    have hl1 := lenOf_ok (P := P) (w := w) hsn hL.tail.head
                    have rd := hL.head
                    split at hc
                    · cases hc
                    · rename_i cells hf
                      obtain ⟨arr, f1, _, fl⟩ := evFirst_ok (P := P) S.heap hf hL.tail.head
                      split at hc
                      · cases hc
                        cases rd
                        refine EffOk.lift (w' := w) (val := .int .i64 (Nat.min sn 0 : Nat)) ?_ (Cx.ext.refl _ _) S ?_ (Nat.le_refl _) (fun _ _ _ => rfl)
                        · simp only [lenOf, Option.some.injEq] at hdn
                          subst hdn
                          have f1' := f1
                          simp only [show Nat.min sn 0 = 0 from Nat.min_zero sn] at f1'
                          simp [Builtin.copy_, hnt 0 t ht, hU, hl1, hS, f1', goInt]
                        · simp only [lenOf, Option.some.injEq] at hdn
                          subst hdn
                          exact .int _ _
                      · rename_i b o n k
                        cases hw : wr h b o cells with
                        | none => rw [hw] at hc; cases hc
                        | some h2 =>
                          rw [hw] at hc
                          cases hc
                          obtain ⟨b', rfl, hb⟩ := rd.slE
                          simp only [lenOf, Option.some.injEq] at hdn
                          subst hdn
                          obtain ⟨w', g1, g2, g3⟩ := SR.store (P := P) S hb hw fl
                          refine EffOk.lift (w' := w') (val := .int .i64 (Nat.min sn n : Nat)) ?_ (Cx.ext.refl _ _) g2 (.int _ _) (Nat.le_refl _) g3
                          simp [Builtin.copy_, hnt 0 t ht, hU, hl1, hS, f1, g1, goInt]
                      · rename_i b l0 n sz
                        cases hw : wr h b (l0 * sz) cells with
                        | none => rw [hw] at hc; cases hc
                        | some h2 =>
                          rw [hw] at hc
                          cases hc
                          obtain ⟨b', rfl, hb, _⟩ := rd.gslE
                          simp only [lenOf, Option.some.injEq] at hdn
                          subst hdn
                          obtain ⟨w', g1, g2, g3⟩ := SR.store (P := P) S hb hw fl
                          refine EffOk.lift (w' := w') (val := .int .i64 (Nat.min sn n : Nat)) ?_ (Cx.ext.refl _ _) g2 (.int _ _) (Nat.le_refl _) g3
                          simp [Builtin.copy_, hnt 0 t ht, hU, hl1, hS, f1, g1, goInt]
                      · cases hc
                  · cases hc
              · cases he
            · cases he
          · cases he
        · cases he
      · cases he
  all_goals (simp only [evEff] at he; cases he)

end
end Ev
end Go.Proofs.YtfmnoohkllmbmaaGreatDoor
