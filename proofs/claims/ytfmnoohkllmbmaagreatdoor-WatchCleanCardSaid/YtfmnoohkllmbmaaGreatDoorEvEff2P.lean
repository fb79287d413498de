/- The evaluator: EvEff2P. -/
import Derived.Test.YtfmnoohkllmbmaaGreatDoorEvEffP
set_option linter.unusedVariables false
set_option linter.unusedSimpArgs false
namespace Go.Proofs.YtfmnoohkllmbmaaGreatDoor
namespace Ev
open Go.RowKit

section
variable {P : Program} {E : Env} (HE : EnvOk P E) {c : Cx} {B : Nat} {h : T ABk} {w w0 : World} {nx : Nat} (S : SR w0 B c h nx w)

theorem EffOk.lift {s : Sem Value} {v : AV} {h' : T ABk} {nx' : Nat} {c' : Cx} {w' : World} {val : Value} (hr : s.run P w = .ok val w') (he : c.ext nx c') (hS : SR w0 B c' h' nx' w') (hv : VR c' v val) (hn : nx ≤ nx')
    (hu : ∀ i, i < nx → c.ρ i = none → h'.get i = h.get i) : EffOk P w0 B c h nx w (do pure (Next.value (← s))) v h' nx' :=
  ⟨c', w', val, .inl (by simp only [Sem.run_bind, hr, Result.andThen_ok, Sem.run_pure]), he, hS, hv, hn, hu⟩

theorem rd_len {h : T ABk} {b o n : Nat} {xs : List AV} (he : rd h b o n = some xs) : xs.length = n := by
  unfold rd at he
  split at he
  · exact (sub_some he).2
  · cases he

theorem evFirst_len {h : T ABk} {size m : Nat} {x : AV} {xs : List AV} (hl : lenOf x = some m) (he : evFirst h size m x = some xs) : xs.length = m * size := by
  cases x <;> simp only [lenOf, Option.some.injEq] at hl <;> simp only [evFirst] at he <;> try (cases he; done)
  · exact rd_len he
  · exact rd_len he
  · split at he
    · cases he; rw [← hl]; simp
    · cases he
  · cases he; rw [← hl]; simp

/-- a grown block -/
theorem BR_grown {c : Cx} {κ B b e sz : Nat} {cs : List AV} {arr rest : Array Value} (hl : LR c cs arr.toList) (hs : arr.size + rest.size = κ * sz) (hB : B ≤ b) :
    BR c κ B b (.cells e sz true false cs) (.cells (arr ++ rest) e) := by
  have hlen := hl.len
  simp at hlen
  refine ⟨rfl, by simp; omega, fun k a ha => ?_, fun _ => ⟨rfl, hB⟩, fun h => (by cases h), fun _ => by simpa using hs⟩
  obtain ⟨v, hv, hr⟩ := hl.get ha
  have hk : k < cs.length := (List.getElem?_eq_some_iff.1 ha).1
  rw [Array.getElem?_toList] at hv
  exact ⟨v, by rw [Array.getElem?_append_left (by omega)]; exact hv, hr⟩

include S in
theorem SR.store {b o b' : Nat} {xs : List AV} {ys : List Value} {h' : T ABk} (hb : c.ρ b = some b') (he : wr h b o xs = some h') (hl : LR c xs ys) :
    ∃ w', (storeCells ⟨b', o, none⟩ ys 0).run P w = .ok () w' ∧ SR w0 B c h' nx w' ∧ ∀ i, i < nx → c.ρ i = none → h'.get i = h.get i := by
  obtain ⟨w', h1, h2, h3, h4, h5, _⟩ := S.heap.store (P := P) hb he hl
  refine ⟨w', h1, ⟨h2.below S.below h3, by rw [h2.size]; exact S.size, h4, S.fresh, fun j y hj => ?_⟩, fun i hi hn => h5 i (fun e => ?_)⟩
  · by_cases e : j = b
    · rw [e]; exact S.fresh b b' hb
    · rw [h5 j e] at hj; exact S.top j y hj
  · rw [e, hb] at hn
    cases hn

include S in
theorem evAppend_ok {ts : Array TypeId} {t u ty e eu : TypeId} (ht0 : ts[0]? = some t) (ht1 : ts[1]? = some u) (ht : P.underlying t = some (.slice e)) (hu : P.underlying u = some (.slice eu)) {ei : TI} (hE : TIok P e ei)
    {s x r : AV} {sv xv : Value} {m nx' : Nat} {news : List AV} {h' : T ABk} (hs : VR c s sv) (hx : VR c x xv) (hm : lenOf x = some m) (hf : evFirst h ei.size m x = some news)
    (he : evAppend h nx e ei.size ei.bytes m s news = some (r, h', nx')) : EffOk P w0 B c h nx w (do pure (Next.value (← Builtin.append_ ts ty #[sv, xv]))) r h' nx' := by
  obtain ⟨i, z, az, hi, his, hib, hz, hcv, hzc, _⟩ := hE.info
  have hzl : z.cells.size = ei.size := by
    have := (cvt_ok c z az hcv).cells.len
    rw [hzc, hE.zlen] at this
    simpa using this.symm
  have h1 := lenOf_ok (P := P) (w := w) hm hx
  obtain ⟨narr, h2, h2', hnl⟩ := evFirst_ok (P := P) S.heap hf hx
  rw [← his] at h2 h2'
  have hnlen : narr.size = m * ei.size := by
    have h1 := hnl.len
    rw [evFirst_len hm hf] at h1
    simpa using h1.symm
  have hzc' : ∀ n, (Builtin.zeroCells z.cells n).size = n * ei.size := fun n => by rw [size_zeroCells, hzl]
  unfold evAppend at he
  split at he
  · cases he
  · rename_i hchk
    simp only [Bool.or_eq_false_iff, Bool.not_eq_false'] at hchk
    obtain ⟨hc1, hc2⟩ := hchk
    have hsz : ei.size ≠ 0 := Nat.ne_of_beq_eq_false hc1
    split at he
    · -- nil
      cases hs
      simp only [lenOf] at hc2
      have hc2 := Nat.le_of_ble_eq_true hc2
      obtain ⟨k1, k2⟩ := run_append_any (w := w) ts t u ty e ht0 ht1 i z eu ht hu hi hz none 0 0 m xv narr h1 h2 h2'
      split at he
      · rename_i hm0
        have hm0 := Nat.eq_of_beq_eq_true hm0
        subst hm0
        cases he
        exact EffOk.lift (k1 (Nat.le_refl _) w rfl) (Cx.ext.refl _ _) S .nilSl (Nat.le_refl _) (fun _ _ _ => rfl)
      · rename_i hm0
        have hm0 := Nat.ne_of_beq_eq_false hm0
        cases he
        have hb1 : m * (i.bytes + 1) ≤ 1000000000 := by rw [hib]; simpa using hc2
        have hb2 : m * i.bytes ≤ 1000000000 := Nat.le_trans (Nat.mul_le_mul_left m (by omega)) hb1
        have hb3 : m * 1 ≤ m * (i.bytes + 1) := Nat.mul_le_mul_left m (by omega)
        have hr := k2 (by omega) (by simp; omega) (by omega) #[] (by simp [Builtin.firstCells])
        simp only [Nat.zero_add] at hr
        have hge := grownCap_ge w m 0 e
        refine EffOk.lift hr (Cx.ext_add c nx w.heap.size (grownCap w m 0 e)) (S.new (.inr rfl) (x := .cells e ei.size true false news) ?_) ?_ (by omega) (fun j hj _ => by rw [T.get_put, if_neg (by omega)])
        · simp only [Array.empty_append]
          refine BR_grown (hnl.mono (Cx.le_add _ _ S.unused)) ?_ S.size
          rw [hnlen, hzc', ← Nat.add_mul]
          congr 1
          omega
        · have := @VR.gsl (c.add nx w.heap.size (grownCap w m 0 e)) nx 0 m ei.size w.heap.size (Cx.add_ρ ..) (by rw [Cx.add_κ]; omega)
          rw [Cx.add_κ] at this
          simpa using this
    · -- exact room
      rename_i b o n k
      cases hs
      rename_i b' hb
      simp only [lenOf] at hc2
      have hc2 := Nat.le_of_ble_eq_true hc2
      have hb1 : (n + m) * (i.bytes + 1) ≤ 1000000000 := by rw [hib]; exact hc2
      have hb2 : (n + m) * i.bytes ≤ 1000000000 := Nat.le_trans (Nat.mul_le_mul_left _ (by omega)) hb1
      have hb3 : (n + m) * 1 ≤ (n + m) * (i.bytes + 1) := Nat.mul_le_mul_left _ (by omega)
      obtain ⟨k1, k2⟩ := run_append_any (w := w) ts t u ty e ht0 ht1 i z eu ht hu hi hz (some ⟨b', o, none⟩) n k m xv narr h1 h2 h2'
      split at he
      · rename_i hfit
        have hfit := Nat.le_of_ble_eq_true hfit
        split at he
        · rename_i h2 hwr
          cases he
          obtain ⟨w', g1, g2, g3⟩ := SR.store (P := P) S hb hwr hnl
          refine EffOk.lift (k1 hfit w' ?_) (Cx.ext.refl _ _) g2 (.sl hb) (Nat.le_refl _) g3
          dsimp only
          rw [his, Addr.add_mid]
          exact g1
        · cases he
      · rename_i hfit
        have hfit : ¬ (n + m ≤ k) := fun hh => by rw [Nat.ble_eq_true_of_le hh] at hfit; cases hfit
        split at he
        · rename_i old hrd
          cases he
          have hrd' : evFirst h ei.size n (.sl b o n k) = some old := hrd
          obtain ⟨oarr, o1, o2, ol⟩ := evFirst_ok (P := P) S.heap hrd' (VR.sl hb)
          rw [← his] at o2
          have holen : oarr.size = n * ei.size := by
            have h1 := ol.len
            rw [rd_len hrd] at h1
            simpa using h1.symm
          have hr := k2 (by omega) (by omega) (by omega) oarr o2
          have hge := grownCap_ge w (n + m) k e
          refine EffOk.lift hr (Cx.ext_add c nx w.heap.size (grownCap w (n + m) k e)) (S.new (.inr rfl) (x := .cells e ei.size true false (old ++ news)) ?_) ?_ (by omega) (fun j hj _ => by rw [T.get_put, if_neg (by omega)])
          · refine BR_grown ?_ ?_ S.size
            · have := (ol.append hnl).mono (Cx.le_add w.heap.size (grownCap w (n + m) k e) S.unused)
              simpa using this
            · rw [Array.size_append, holen, hnlen, hzc', ← Nat.add_mul, ← Nat.add_mul]
              congr 1
              omega
          · have := @VR.gsl (c.add nx w.heap.size (grownCap w (n + m) k e)) nx 0 (n + m) ei.size w.heap.size (Cx.add_ρ ..) (by rw [Cx.add_κ]; omega)
            rw [Cx.add_κ] at this
            simpa using this
        · cases he
    · -- room that hangs on the tape
      rename_i b l n sz
      cases hs
      rename_i b' hb hle
      simp only [lenOf] at hc2
      have hc2 := Nat.le_of_ble_eq_true hc2
      have hb1 : (n + m) * (i.bytes + 1) ≤ 1000000000 := by rw [hib]; exact hc2
      have hb2 : (n + m) * i.bytes ≤ 1000000000 := Nat.le_trans (Nat.mul_le_mul_left _ (by omega)) hb1
      have hb3 : (n + m) * 1 ≤ (n + m) * (i.bytes + 1) := Nat.mul_le_mul_left _ (by omega)
      split at he
      · cases he
      · rename_i hsz'
        have hsz' := Nat.eq_of_beq_eq_true hsz'
        subst hsz'
        obtain ⟨k1, k2⟩ := run_append_any (w := w) ts t u ty e ht0 ht1 i z eu ht hu hi hz (some ⟨b', l * ei.size, none⟩) n (c.κ b - l) m xv narr h1 h2 h2'
        split at he
        · rename_i e' szb cs hg
          split at he
          · cases he
          · rename_i hck
            simp only [Bool.and_eq_true] at hck
            have hke := Nat.eq_of_beq_eq_true hck.1
            have hks := Nat.eq_of_beq_eq_true hck.2
            subst hke
            subst hks
            obtain ⟨arr, fz, hw, hle2, hp, hro, _, hg2⟩ := S.heap.cells hg hb
            obtain ⟨rfl, hBb⟩ := hro rfl
            have hg2 := hg2 rfl
            have hpos : 0 < ei.size := by omega
            split at he
            · rename_i hin
              have hin := Nat.le_of_ble_eq_true hin
              have hfit : l + n + m ≤ c.κ b := by
                rw [hg2] at hle2
                exact Nat.le_of_mul_le_mul_right (Nat.le_trans hin hle2) hpos
              split at he
              · rename_i h2 hwr
                cases he
                obtain ⟨w', g1, g2, g3⟩ := SR.store (P := P) S hb hwr hnl
                refine EffOk.lift (k1 (by omega) w' ?_) (Cx.ext.refl _ _) g2 (.gsl hb (by omega)) (Nat.le_refl _) g3
                dsimp only
                rw [his, Addr.add_mid]
                exact g1
              · cases he
            · split at he
              · rename_i hl0 hco
                have hl0 := Nat.eq_of_beq_eq_true hl0
                subst hl0
                split at he
                · cases he
                · rename_i hn
                  have hn := Nat.eq_of_beq_eq_true hn
                  cases he
                  have hnb : ∀ j, j < nx → c.ρ j = none → ((rm h b).put (some (.cells e' ei.size true false (cs ++ news))) nx).get j = h.get j := fun j hj hjn => by
                    rw [T.get_put, if_neg (by omega)]
                    unfold rm
                    rw [T.get_put, if_neg]
                    intro e
                    rw [e, hb] at hjn
                    cases hjn
                  by_cases hfit : n + m ≤ c.κ b
                  · -- the room is there
                    have hroom : (n + m) * ei.size ≤ arr.size := by rw [hg2]; exact Nat.mul_le_mul_right _ hfit
                    rw [Nat.add_mul] at hroom
                    have hrun := run_storeCells_at P b' (n * ei.size) e' narr.toList 0 arr w hw (by simp [hnlen]; omega) (cellsOnly_ok hco hnl)
                    simp only [Nat.add_zero] at hrun
                    have hadd : ((⟨b', 0 * ei.size, none⟩ : Addr).add (n * i.size)) = ⟨b', n * ei.size, none⟩ := by rw [Addr.add_mid, his]; simp
                    have hr := k1 (by omega) _ (by dsimp only; rw [hadd]; exact hrun)
                    have ho := onlyAt_setRow w b' (arr.toList.take (n * ei.size) ++ narr.toList ++ arr.toList.drop (n * ei.size + narr.toList.length)).toArray
                    refine EffOk.lift hr (Cx.ext_add c nx b' (c.κ b)) ⟨ho.below S.below hBb, by rw [ho.size]; exact S.size, S.heap.renew hg hb S.unused (setRow_heap w b' arr _ e' (0, 0) hw) ho.other ?_, Cx.fresh_add S.fresh, T.top_put (T.top_rm fun i x hi => Nat.lt_succ_of_lt (S.top i x hi)) (Nat.lt_succ_self _)⟩ ?_ (by omega) hnb
                    · have hsz2 : (arr.toList.take (n * ei.size) ++ narr.toList ++ arr.toList.drop (n * ei.size + narr.toList.length)).toArray.size = arr.size := by simp [hnlen]; omega
                      have hnl1 := hnl.len
                      simp at hnl1
                      refine ⟨rfl, by rw [hsz2]; simp; omega, fun k a ha => ?_, fun _ => ⟨rfl, hBb⟩, fun hh => (by cases hh), fun _ => by rw [hsz2]; exact hg2⟩
                      rw [List.getElem?_toArray, List.append_assoc]
                      by_cases hk : k < cs.length
                      · rw [List.getElem?_append_left hk] at ha
                        obtain ⟨v, hv, hvr⟩ := hp k a ha
                        refine ⟨v, ?_, hvr.mono (Cx.le_add _ _ S.unused)⟩
                        rw [List.getElem?_append_left (by simp; omega), List.getElem?_take, if_pos (by omega), Array.getElem?_toList]
                        exact hv
                      · rw [List.getElem?_append_right (by omega)] at ha
                        obtain ⟨v, hv, hvr⟩ := hnl.get ha
                        refine ⟨v, ?_, hvr.mono (Cx.le_add _ _ S.unused)⟩
                        have hk2 : k - cs.length < news.length := (List.getElem?_eq_some_iff.1 ha).1
                        have htl : (arr.toList.take (n * ei.size)).length = cs.length := by simp; omega
                        rw [List.getElem?_append_right (by omega), htl, List.getElem?_append_left (by simp; omega)]
                        exact hv
                    · have := @VR.gsl (c.add nx b' (c.κ b)) nx 0 (n + m) ei.size b' (Cx.add_ρ ..) (by rw [Cx.add_κ]; omega)
                      rw [Cx.add_κ] at this
                      exact this
                  · -- a new block
                    have hrd' : evFirst h ei.size n (.gsl b 0 n ei.size) = some cs := by
                      simp only [evFirst, rd, Nat.zero_mul]
                      rw [hg]
                      simp only [sub, List.drop_zero]
                      rw [hn, List.take_length]
                      simp
                    obtain ⟨oarr, o1, o2, ol⟩ := evFirst_ok (P := P) S.heap hrd' (VR.gsl hb hle)
                    rw [← his] at o2
                    rw [his] at o2
                    have holen : oarr.size = n * ei.size := by
                      have h1 := ol.len
                      rw [← hn] at h1
                      simpa using h1.symm
                    have hr := k2 (by omega) (by omega) (by omega) oarr (by rw [his]; simpa using o2)
                    have hge := grownCap_ge w (n + m) (c.κ b - 0) e'
                    have S' : SR w0 B c (rm h b) nx w := ⟨S.below, S.size, S.heap.rm b, S.fresh, T.top_rm S.top⟩
                    refine EffOk.lift hr (Cx.ext_add c nx w.heap.size (grownCap w (n + m) (c.κ b - 0) e')) (S'.new (.inr rfl) (x := .cells e' ei.size true false (cs ++ news)) ?_) ?_ (by omega) hnb
                    · refine BR_grown ?_ ?_ S.size
                      · have := (ol.append hnl).mono (Cx.le_add w.heap.size (grownCap w (n + m) (c.κ b - 0) e') S.unused)
                        simpa using this
                      · rw [Array.size_append, holen, hnlen, hzc', ← Nat.add_mul, ← Nat.add_mul]
                        congr 1
                        omega
                    · have := @VR.gsl (c.add nx w.heap.size (grownCap w (n + m) (c.κ b - 0) e')) nx 0 (n + m) ei.size w.heap.size (Cx.add_ρ ..) (by rw [Cx.add_κ]; omega)
                      rw [Cx.add_κ] at this
                      simpa using this
              · cases he
        · cases he
    · cases he

end
end Ev
end Go.Proofs.YtfmnoohkllmbmaaGreatDoor
