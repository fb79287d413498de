/- The evaluator: EvDraw7P. -/
import Derived.Test.YtfmnoohkllmbmaaGreatDoorEvInsP
set_option linter.unusedVariables false
set_option linter.unusedSimpArgs false
namespace Go.Proofs.YtfmnoohkllmbmaaGreatDoor
namespace Ev
open Go.RowKit

section
variable {P : Program} {E : Env} (HE : EnvOk P E) (HF : FnsOk P E) {w0 : World} {B : Nat} {ops : Array Oper} {bef : List Nat} (F : SF E ops bef) {c : Cx} {st : St} {a0 : Act}

theorem drAfter_cons {rec_ : Rec} {nt : Nat} {all : List Oper} {e : Nat} {es : List Nat} {C Cf : Dr} (he : drAfter E rec_ nt all bef (e :: es) C = some Cf) :
    (behind bef e es = true ∧ ∃ C2, drEffStage E rec_ nt all bef e C = some C2 ∧ drAfter E rec_ nt all bef es C2 = some Cf) ∨ (∃ e2, es = [e2] ∧ drPair E rec_ nt all bef e e2 C = some Cf) ∨ drIns E nt all bef (e :: es) C = some Cf := by
  simp only [drAfter] at he
  split at he
  · rename_i hb
    split at he
    · cases he
    · rename_i C2 h2
      exact .inl ⟨hb, C2, h2, he⟩
  · split at he
    · exact .inr (.inl ⟨_, rfl, he⟩)
    · exact .inr (.inr he)

theorem drAfter_one {rec_ : Rec} {nt : Nat} {all : List Oper} {e : Nat} {C C2 : Dr} (h : drEffStage E rec_ nt all bef e C = some C2) (hd : drDone all C2 = true) : drAfter E rec_ nt all bef [e] C = some C2 := by
  simp only [drAfter, behind, h, hd]

theorem AI.finish {rec_ : Rec} {es : List Nat} {V : Nat → AV} {TM : Nat → T AV} {ID : Nat → Nat} {cx : Cx} {C Cf : Dr} {listed : Array Bool} {a : Act} {w0' : World} (h0 : StR E w0 B c st a0 w0') {w1 : World}
    (A : AI E w0 B ops bef c st a0 es V TM ID cx C listed a w1) (hall : ∀ i, i < ops.size → Ls listed i) (he : drAfter E rec_ st.nt ops.toList bef es C = some Cf) :
    Step E w0 B c st cx { st with tm := Cf.tm, heap := Cf.h, next := Cf.nx } a w1 := by
  have no : ∀ e o, nth ops.toList e = some o → ¬ C.done.testBit e = true → False := fun e o ho hD => by
    rw [nth_eq, Array.getElem?_toList] at ho
    have hi : e < ops.size := by
      rcases Nat.lt_or_ge e ops.size with h | h
      · exact h
      · rw [Array.getElem?_eq_none h] at ho; cases ho
    exact hD (A.sub e (hall e hi))
  have noS : ∀ e C2, drEffStage E rec_ st.nt ops.toList bef e C = some C2 → False := fun e C2 hs => by
    obtain ⟨b, o, _, _, _, ho, _, hD, _⟩ := drEffStage_ok hs
    exact no e o ho hD
  cases es with
  | nil =>
    simp only [drAfter] at he
    split at he
    · cases he
      exact A.last h0 hall
    · cases he
  | cons e es =>
    rcases drAfter_cons he with ⟨_, C2, h2, _⟩ | ⟨e2, _, hp⟩ | hi
    · exact (noS e C2 h2).elim
    · obtain ⟨c1, _, _, h1, _⟩ := drPair_ok hp
      exact (noS e c1 h1).elim
    · obtain ⟨t, m, kt, vt, id, ti, _, _, _, _, _, _, h1, _⟩ := drIns_ok hi
      obtain ⟨b, o, k, x, _, ho, _, hD, _⟩ := insOne_ok (h1 e (by simp))
      exact (no e o ho hD).elim

include HE HF F in
theorem draw_any {rec_ : Rec} (HR : RecOk P E w0 B rec_) {w0' : World} (h0 : StR E w0 B c st a0 w0') {Q : Exit → Act → World → Prop} :
    ∀ (fuel : Nat) (es : List Nat) (V : Nat → AV) (TM : Nat → T AV) (ID : Nat → Nat) (cx : Cx) (C Cf : Dr) (listed : Array Bool) (a : Act) (w : World), AI E w0 B ops bef c st a0 es V TM ID cx C listed a w →
      drFull E C.done ops.toList bef 0 = true → drAfter E rec_ st.nt ops.toList bef es C = some Cf → (∀ cx a w, Step E w0 B c st cx { st with tm := Cf.tm, heap := Cf.h, next := Cf.nx } a w → Q .normal a w) →
      cnt listed ops.size ≤ fuel → wpAny P .any ops Q fuel listed a w := by
  intro fuel
  induction fuel with
  | zero =>
    intro es V TM ID cx C Cf listed a w A hfull he hQ hcnt
    have hall := cnt_zero ops.size (by omega) (listed := listed)
    refine ⟨?_, hQ cx a w (A.finish h0 hall he)⟩
    cases hr : Region.ready .any ops listed with
    | nil => rfl
    | cons i l =>
      have hi : i ∈ Region.ready .any ops listed := by rw [hr]; simp
      obtain ⟨h1, o, ho, _⟩ := mem_ready.1 hi
      have hlt : i < ops.size := by
        rcases Nat.lt_or_ge i ops.size with h | h
        · exact h
        · rw [Array.getElem?_eq_none h] at ho; cases ho
      have := hall i hlt
      unfold Ls at this
      have hlt' : i < listed.size := by rw [A.size]; exact hlt
      simp [hlt'] at h1 this
      rw [h1] at this
      cases this
  | succ fuel ih =>
    intro es V TM ID cx C Cf listed a w A hfull he hQ hcnt
    by_cases hI : drIns E st.nt ops.toList bef es C = some Cf
    · exact drIns_any HE HF F HR h0 hI hQ A hcnt
    refine ⟨fun hr => hQ cx a w (A.finish h0 (fun i hi => all_listed F hr A.size (i + 1) i (by omega) hi) he), fun i hi => ?_⟩
    obtain ⟨h1, o, ho, hedges⟩ := mem_ready.1 hi
    have hlt : i < ops.size := by
      rcases Nat.lt_or_ge i ops.size with h | h
      · exact h
      · rw [Array.getElem?_eq_none h] at ho; cases ho
    have hlt' : i < listed.size := by rw [A.size]; exact hlt
    have hL : ¬ Ls listed i := by
      unfold Ls
      intro h2
      simp [hlt'] at h1 h2
      rw [h1] at h2
      cases h2
    have hr : ∀ e ∈ o.after.toList, Region.binds .any e = true → Ls listed e.on := fun e he' hb => hedges e (by simpa using he') hb
    obtain ⟨b, hb, _, _⟩ := F.sets i o ho
    have hin : within b C.done = true := within_of fun j hj => A.sub j (A.readyAhead F ho hr ⟨b, hb, hj⟩)
    have hc := cnt_set hlt' hL ops.size hlt
    cases hne : isEff E o with
    | false =>
      have hD := drFull_ok _ _ 0 hfull i o b (by rw [Array.getElem?_toList]; exact ho) (by rw [← nth_eq]; exact hb) hne hin
      rw [Nat.zero_add] at hD
      exact A.one HE F hD hL ho hne hr fun cx' a' w' _ A' => ih es V TM ID cx' C Cf _ a' w' A' hfull he hQ (by omega)
    | true =>
      have hD : ¬ C.done.testBit i = true := fun h => hL (A.effDone i o h ho hne)
      have hmem : i ∈ es := (A.effAll i o ho hne).resolve_left hD
      -- the effect i comes up, es' are left
      have eff : ∀ (es' : List Nat) (C2 Cf' : Dr), (∀ x, x ∈ es → x ∈ i :: es') → drEffStage E rec_ st.nt ops.toList bef i C = some C2 → drAfter E rec_ st.nt ops.toList bef es' C2 = some Cf' →
          (∀ cx a w, Step E w0 B c st cx { st with tm := Cf'.tm, heap := Cf'.h, next := Cf'.nx } a w → Q .normal a w) → wpOp P ops Q i (wpAny P .any ops Q fuel (listed.setIfInBounds i true)) a w := by
        intro es' C2 Cf' hsub hs he' hQ'
        obtain ⟨b', o', C1, l, hb', ho', _, _, _, hC1, hl, hC2, hf2⟩ := drEffStage_ok hs
        rw [hb] at hb'
        cases hb'
        rw [nth_eq, Array.getElem?_toList, ho] at ho'
        cases ho'
        refine (A.perm hsub).eff HE HF F HR ho hne hD hb hin hr hC1 hl fun v cx' a' w' _ A' => ?_
        obtain ⟨V2, TM2, ID2, A2⟩ := AI.stage F ops.toList bef 0 _ _ _ _ C2 rfl rfl A' hC2
        exact ih es' V2 TM2 ID2 cx' C2 Cf' _ a' w' A2 hf2 he' hQ' (by omega)
      cases es with
      | nil => cases hmem
      | cons e es =>
        rcases drAfter_cons he with ⟨hbe, C2, h2, h3⟩ | ⟨e2, rfl, hp⟩ | hi3
        · have hie : i = e := by
            cases hmem with
            | head => rfl
            | tail _ hm =>
              have h1 := A.sub e (A.readyAhead F ho hr (behind_ok es hbe i hm))
              obtain ⟨_, _, _, _, _, _, _, hnd, _⟩ := drEffStage_ok h2
              exact absurd h1 hnd
          subst hie
          exact eff es C2 Cf (fun x hx => hx) h2 h3 hQ
        · obtain ⟨c1, c2, c21, g1, g2, g3, g4, g5, g6, g7, g8, g9⟩ := drPair_ok hp
          cases hmem with
          | head => exact eff [e2] c1 Cf (fun x hx => hx) g1 (drAfter_one g3 g5) hQ
          | tail _ hm =>
            cases hm with
            | head =>
              refine eff [e] c2 c21 (fun x hx => ?_) g2 (drAfter_one g4 g6) (fun cx a w hs => hQ cx a w (hs.congr g7 g8 g9 rfl rfl))
              cases hx with
              | head => simp
              | tail _ hx => cases hx with
                | head => simp
                | tail _ hx => cases hx
            | tail _ hm => cases hm
        · exact absurd hi3 hI

theorem effs_ok : ∀ (l : List Oper) (k i : Nat) (o : Oper), l[i]? = some o → isEff E o = true → k + i ∈ effs E l k
  | [], k, i, o, h, _ => by simp at h
  | x :: l, k, i, o, h, he => by
    simp only [effs]
    cases i with
    | zero =>
      simp at h
      subst h
      rw [he]
      simp
    | succ i =>
      simp at h
      have := effs_ok l (k + 1) i o h he
      rw [show k + (i + 1) = k + 1 + i by omega]
      split
      · exact List.mem_cons_of_mem _ this
      · exact this

include HE HF in
theorem draw_ok : DrawOk P E w0 B := by
  intro rec_ HR id ops st st' he c a w h Q hQo hQp hQ
  unfold evDraw at he
  simp only at he
  split at he
  · cases he
  · rename_i hck
    simp only [Bool.and_eq_true] at hck
    obtain ⟨⟨k1, k2⟩, k3⟩ := hck
    have F : SF E ops (befGo ops.toList []) := sf_ok k1 k2 k3
    cases hg : drGo E rec_ st.nt ops.toList (befGo ops.toList []) (effs E ops.toList 0) ⟨st.tm, st.heap, st.next, 0, []⟩ with
    | none => rw [hg] at he; cases he
    | some Cf =>
      rw [hg] at he
      cases he
      unfold drGo at hg
      split at hg
      · cases hg
      · rename_i C1 hC1
        split at hg
        · cases hg
        · rename_i hf1
          refine wp_region_any HF.mixed ?_
          have nols : ∀ i, ¬ Ls (Array.replicate ops.size false) i := fun i hi => by
            unfold Ls at hi
            by_cases hlt : i < ops.size
            · simp [hlt] at hi
            · simp [hlt] at hi
          have A0 : AI E w0 B ops (befGo ops.toList []) c st a (effs E ops.toList 0) (fun _ => .tup []) (fun _ => .leaf) (fun _ => 0) c ⟨st.tm, st.heap, st.next, 0, []⟩ (Array.replicate ops.size false) a { w with drawn := w.drawn + 1 } :=
            { size := by simp, sub := fun i hi => absurd hi (nols i), down := fun i o hi => absurd hi (nols i), doneLt := fun i hi => by simp at hi, doneDown := fun i j hi => by simp at hi, effDone := fun i o hi => by simp at hi,
              effAll := fun i o ho hne => .inr (by simpa using effs_ok ops.toList 0 i o (by rw [Array.getElem?_toList]; exact ho) hne), k1 := fun i o d hi => by simp at hi, k2 := fun t _ => rfl, k5 := fun i o hi => by simp at hi, fact := fun i o hi => by simp at hi,
              ids := fun i j oi oj hi => by simp at hi, t1 := fun i o d hi => absurd hi (nols i), t2 := fun t x _ hx => h.tm.at_ t x hx, tsz := h.tm.size, defers := rfl, mem := h.mem.drew, gl := h.gl, ext := Cx.ext.refl _ _, next := Nat.le_refl _, still := fun _ _ _ => rfl }
          obtain ⟨V, TM, ID, A1⟩ := AI.stage F ops.toList _ 0 _ _ _ _ C1 rfl rfl A0 hC1
          have hcnt : cnt (Array.replicate ops.size false) ops.size ≤ ops.size := by
            have : ∀ n, cnt (Array.replicate ops.size false) n ≤ n := fun n => by
              induction n with
              | zero => exact Nat.le_refl _
              | succ n ih => simp only [cnt]; split <;> omega
            exact this _
          exact draw_any HE HF F HR h ops.size _ V TM ID c C1 Cf _ a _ A1 hf1 hg (fun cx a' w' hs => hQ cx a' w' hs) hcnt

end
end Ev
end Go.Proofs.YtfmnoohkllmbmaaGreatDoor
