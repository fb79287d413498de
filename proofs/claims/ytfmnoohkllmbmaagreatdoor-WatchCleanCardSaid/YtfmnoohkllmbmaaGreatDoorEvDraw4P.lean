/- The evaluator: EvDraw4P. -/
import Derived.Test.YtfmnoohkllmbmaaGreatDoorEvDraw3P
set_option linter.unusedVariables false
set_option linter.unusedSimpArgs false
namespace Go.Proofs.YtfmnoohkllmbmaaGreatDoor
namespace Ev
open Go.RowKit

theorem ls_set {listed : Array Bool} {i j : Nat} (hi : i < listed.size) : Ls (listed.setIfInBounds i true) j ↔ j = i ∨ Ls listed j := by
  unfold Ls
  by_cases h : j = i
  · subst h
    simp [hi]
  · rw [getD_set_ne false (Ne.symm h)]
    simp [h]

section
variable {P : Program} {E : Env} (HE : EnvOk P E) (HF : FnsOk P E) {w0 : World} {B : Nat} {ops : Array Oper} {bef : List Nat} (F : SF E ops bef) {c : Cx} {st : St} {a0 : Act} {es : List Nat}
  {V : Nat → AV} {TM : Nat → T AV} {ID : Nat → Nat} {cx : Cx} {C : Dr} {listed : Array Bool} {a : Act} {w : World}

include F in
/-- an operation has come up: the memory may have grown by its block -/
theorem AI.list (A : AI E w0 B ops bef c st a0 es V TM ID cx C listed a w) {i : Nat} {o : Oper} (hD : C.done.testBit i = true) (hL : ¬ Ls listed i) (ho : ops[i]? = some o) (hne : isEff E o = false)
    (hr : ∀ e ∈ o.after.toList, Region.binds .any e = true → Ls listed e.on) {cx' : Cx} {w' : World} {val : Value} (hc : cx.le cx') (hS : SR w0 B cx' C.h C.nx w') (hx : c.ext st.next cx') (hv : VR cx' (V i) val)
    (hid : ∀ id, cx.ρ id = none → cx'.ρ id = none ∨ (id = ID i ∧ kindOf E o = .new ∧ wantedBy (TM i).get ops.toList o = some true)) :
    AI E w0 B ops bef c st a0 es V TM ID cx' C (listed.setIfInBounds i true) (a.put o.dst val) w' := by
  have hi : i < ops.size := A.doneLt i hD
  have hil : i < listed.size := by rw [A.size]; exact hi
  have key : ∀ j, Ls (listed.setIfInBounds i true) j ↔ j = i ∨ Ls listed j := fun j => ls_set hil
  have nkey : ∀ j, ¬ Ls (listed.setIfInBounds i true) j → j ≠ i ∧ ¬ Ls listed j := fun j h => ⟨fun e => h ((key j).2 (.inl e)), fun e => h ((key j).2 (.inr e))⟩
  have tmps : ∀ t v, (o.dst ≠ some t) → a.tmps[t]? = some v → (a.put o.dst val).tmps[t]? = some v := fun t v hd hv' => by
    cases hdst : o.dst with
    | none => exact hv'
    | some d =>
      simp only [Act.put]
      rw [Array.getElem?_setIfInBounds_ne (fun e => hd (by rw [hdst, e]))]
      exact hv'
  refine
    { size := by simp [A.size], sub := fun j hj => ?_, down := fun j oj hj hoj e he hb => ?_, doneLt := A.doneLt, doneDown := A.doneDown, effDone := fun j oj h1 h2 h3 => (key j).2 (.inr (A.effDone j oj h1 h2 h3)),
      effAll := A.effAll, k1 := A.k1, k2 := A.k2, k5 := fun j oj h1 h2 h3 => A.k5 j oj h1 (nkey j h2).2 h3, fact := fun j oj h1 h2 h3 => ?_, ids := fun j k oj ok h1 h2 h3 h4 => A.ids j k oj ok h1 h2 (nkey j h3).2 (nkey k h4).2,
      t1 := fun j oj d hj hoj hd => ?_, t2 := fun t x hn hs => ?_, tsz := ?_, defers := ?_, mem := hS, gl := A.gl.mono hc, ext := hx, next := A.next, still := A.still }
  · rcases (key j).1 hj with rfl | h
    · exact hD
    · exact A.sub j h
  · rcases (key j).1 hj with rfl | h
    · rw [ho] at hoj
      cases hoj
      exact (key e.on).2 (.inr (hr e he hb))
    · exact (key e.on).2 (.inr (A.down j oj h hoj e he hb))
  · obtain ⟨hji, hjl⟩ := nkey j h2
    have hf := A.fact j oj h1 hjl h3
    unfold Fact at hf ⊢
    rcases hf with hf | ⟨hw, hf | hf | ⟨hk, blk, f, g1, g2, g3, g4, g5, g6⟩⟩
    · exact .inl hf
    · exact .inr ⟨hw, .inl hf⟩
    · exact .inr ⟨hw, .inr (.inl hf)⟩
    · refine .inr ⟨hw, .inr (.inr ⟨hk, blk, f, g1, g2, g3, ?_, g5, g6⟩)⟩
      rcases hid _ g4 with h | ⟨h, hk', hw'⟩
      · exact h
      · exact absurd (A.ids j i oj o h1 hD hjl hL h3 ho hk hk' hw hw' h) hji
  · rcases (key j).1 hj with rfl | h
    · rw [ho] at hoj
      cases hoj
      have := (A.k1 j o d hD ho hd).2
      refine ⟨val, ?_, hv⟩
      rw [hd]
      simp only [Act.put]
      rw [Array.getElem?_setIfInBounds_self_of_lt (Nat.lt_of_lt_of_le this A.tsz)]
    · obtain ⟨v, h1, h2⟩ := A.t1 j oj d h hoj hd
      refine ⟨v, tmps d v (fun e => ?_) h1, h2.mono hc⟩
      exact hL (F.dst j i oj o d hoj ho hd e ▸ h)
  · obtain ⟨v, h1, h2⟩ := A.t2 t x (fun j oj hj => hn j oj ((key j).2 (.inr hj))) hs
    exact ⟨v, tmps t v (hn i o ((key i).2 (.inl rfl)) ho) h1, h2.mono hc⟩
  · cases o.dst <;> simp [Act.put, A.tsz]
  · cases o.dst <;> exact A.defers

theorem HR_leaf (c : Cx) (B : Nat) (w : World) : HR c B .leaf w := ⟨fun i x b h => (by cases h), fun i j x y b h => (by cases h)⟩

include HE F in
/-- an operation without effects comes up -/
theorem AI.one (A : AI E w0 B ops bef c st a0 es V TM ID cx C listed a w) {i : Nat} {o : Oper} (hD : C.done.testBit i = true) (hL : ¬ Ls listed i) (ho : ops[i]? = some o) (hne : isEff E o = false)
    (hr : ∀ e ∈ o.after.toList, Region.binds .any e = true → Ls listed e.on) {K : Act → World → Prop} {Q : Exit → Act → World → Prop}
    (hK : ∀ cx' a' w', cx.le cx' → AI E w0 B ops bef c st a0 es V TM ID cx' C (listed.setIfInBounds i true) a' w' → K a' w') : wpOp P ops Q i K a w := by
  have hsee := A.sees F hD hL ho hr
  have hops := hsee.opsR A.gl
  unfold wpOp
  rw [ho]
  simp only
  have hf := A.fact i o hD hL ho
  unfold Fact at hf
  rcases hf with ⟨hw, hv⟩ | ⟨hw, hf⟩
  · rw [hsee.wanted hw]
    simp only [Bool.false_eq_true, if_false]
    exact hK cx _ _ (Cx.le.refl _) (A.list F hD hL ho hne hr (Cx.le.refl _) A.mem A.ext (by rw [hv]; exact LR.tup (arr := #[]) (LR.nil cx)) (fun id h => .inl h))
  · rw [hsee.wanted hw]
    simp only [if_true]
    refine .inl ?_
    rcases hf with ⟨hk, hf⟩ | ⟨hk, hf, _⟩ | ⟨hk, blk, f, g1, g2, g3, g4, g5, g6⟩
    · obtain ⟨val, h1, h2⟩ := evPure_ok HE (HR_leaf cx B w) o hops hf
      unfold Oper.wp
      rw [h1]
      exact hK cx _ _ (Cx.le.refl _) (A.list F hD hL ho hne hr (Cx.le.refl _) A.mem A.ext h2 (fun id h => .inl h))
    · obtain ⟨val, h1, h2⟩ := evPure_ok HE A.mem.heap o hops hf
      unfold Oper.wp
      rw [h1]
      exact hK cx _ _ (Cx.le.refl _) (A.list F hD hL ho hne hr (Cx.le.refl _) A.mem A.ext h2 (fun id h => .inl h))
    · obtain ⟨obj, val, w1, κ, h1, h2, h3⟩ := evNew_ok HE A.mem.size o hops g1
      obtain ⟨h4, h5⟩ := h3 (ID i) g4
      have S1 : SR w0 B cx C.h C.nx w1 := by rcases h2 with rfl | rfl; exact A.mem; exact A.mem.drew
      have hs : w1.heap.size = w.heap.size := by rcases h2 with rfl | rfl <;> rfl
      rw [← hs] at h4 h5
      have S' : SR w0 B (cx.add (ID i) w1.heap.size κ) C.h C.nx (w1.alloc obj) := by
        refine ⟨S1.below.alloc S1.size obj, by have := S1.size; show B ≤ (w1.heap.push obj).size; simp; omega, S1.heap.new g4 g3 obj h4, fun j b hj => ?_, S1.top⟩
        by_cases hji : j = ID i
        · rw [hji]; exact g5
        · exact S1.fresh j b (by simpa [Cx.add, hji] using hj)
      unfold Oper.wp
      rw [h1]
      refine hK _ _ _ (Cx.le_add _ _ g4) (A.list F hD hL ho hne hr (Cx.le_add _ _ g4) S' ?_ (by rw [g2]; exact h5) (fun id h => ?_))
      · exact ⟨fun j hj => by have := A.ext.ρ j hj; simp [Cx.add, show j ≠ ID i by omega, this], fun j hj => by have := A.ext.κ j hj; simp [Cx.add, show j ≠ ID i by omega, this]⟩
      · by_cases hji : id = ID i
        · exact .inr ⟨hji, hk, hw⟩
        · exact .inl (by simp [Cx.add, hji, h])

def upd {α : Type} (f : Nat → α) (i : Nat) (x : α) (j : Nat) : α := if j = i then x else f j
theorem upd_same {α : Type} (f : Nat → α) (i : Nat) (x : α) : upd f i x i = x := by simp [upd]
theorem upd_ne {α : Type} (f : Nat → α) {i j : Nat} (x : α) (h : j ≠ i) : upd f i x j = f j := by simp [upd, h]

theorem putT_ok {nt : Nat} {tm tm' : T AV} {dst : Option Nat} {v : AV} (h : putT nt tm dst v = some tm') : (∀ d, dst = some d → tm'.get d = some v ∧ d < nt) ∧ (∀ t, dst ≠ some t → tm'.get t = tm.get t) := by
  unfold putT at h
  split at h
  · cases h
    exact ⟨fun d h => (by cases h), fun t _ => rfl⟩
  · rename_i d
    split at h
    · rename_i hd
      cases h
      rw [Nat.blt_eq] at hd
      refine ⟨fun d' h => ?_, fun t ht => ?_⟩
      · cases h
        exact ⟨by rw [T.get_put, if_pos rfl], hd⟩
      · rw [T.get_put, if_neg]
        intro e
        exact ht (by rw [e])
    · cases h

include F in
/-- an operation without effects is done abstractly -/
theorem AI.grow (A : AI E w0 B ops bef c st a0 es V TM ID cx C listed a w) {i : Nat} {o : Oper} {b : Nat} (ho : ops[i]? = some o) (hne : isEff E o = false) (hD : ¬ C.done.testBit i = true) (hb : nth bef i = some b) (hin : within b C.done = true)
    {C' : Dr} (he : drOne E st.nt ops.toList i o C = some C') : ∃ V' TM' ID', AI E w0 B ops bef c st a0 es V' TM' ID' cx C' listed a w := by
  have hL : ¬ Ls listed i := fun h => hD (A.sub i h)
  have hi : i < ops.size := by
    rcases Nat.lt_or_ge i ops.size with h | h
    · exact h
    · rw [Array.getElem?_eq_none h] at ho; cases ho
  -- what the step says
  have step : ∃ v tm', putT st.nt C.tm o.dst v = some tm' ∧ C'.tm = tm' ∧ C'.done = Nat.lor C.done (2 ^ i) ∧ C.nx ≤ C'.nx ∧ (∀ j x, C.h.get j = some x → C'.h.get j = some x) ∧ (∀ j, j < C.nx → C'.h.get j = C.h.get j) ∧
      (∀ x, x ∈ C.pend → x ∈ C'.pend) ∧ Fact E ops st cx C' v C.tm C.nx i o ∧ SR w0 B cx C'.h C'.nx w := by
    unfold drOne at he
    split at he
    · cases he
    · rename_i hw
      cases hp : putT st.nt C.tm o.dst (.tup []) with
      | none => rw [hp] at he; cases he
      | some tm' =>
        rw [hp] at he
        cases he
        exact ⟨_, tm', hp, rfl, rfl, Nat.le_refl _, fun j x h => h, fun j _ => rfl, fun x h => h, .inl ⟨hw, rfl⟩, A.mem⟩
    · rename_i hw
      split at he
      · rename_i hk
        split at he
        · rename_i v hv
          cases hp : putT st.nt C.tm o.dst v with
          | none => rw [hp] at he; cases he
          | some tm' =>
            rw [hp] at he
            cases he
            exact ⟨v, tm', hp, rfl, rfl, Nat.le_refl _, fun j x h => h, fun j _ => rfl, fun x h => h, .inr ⟨hw, .inl ⟨hk, hv⟩⟩, A.mem⟩
        · cases he
      · rename_i hk
        split at he
        · rename_i v hv
          cases hp : putT st.nt C.tm o.dst v with
          | none => rw [hp] at he; cases he
          | some tm' =>
            rw [hp] at he
            cases he
            exact ⟨v, tm', hp, rfl, rfl, Nat.le_refl _, fun j x h => h, fun j _ => rfl, fun x h => List.mem_cons_of_mem _ h, .inr ⟨hw, .inr (.inl ⟨hk, hv, List.mem_cons_self ..⟩)⟩, A.mem⟩
        · cases he
      · rename_i hk
        split at he
        · rename_i blk f hn
          cases hp : putT st.nt C.tm o.dst (f C.nx) with
          | none => rw [hp] at he; cases he
          | some tm' =>
            rw [hp] at he
            cases he
            refine ⟨f C.nx, tm', hp, rfl, rfl, Nat.le_succ _, fun j x h => ?_, fun j hj => ?_, fun x h => h, .inr ⟨hw, .inr (.inr ⟨hk, blk, f, hn, rfl, ?_, A.mem.unused, Nat.lt_succ_self _, A.next⟩)⟩, ?_⟩
            · rw [T.get_put, if_neg (by have := A.mem.top j x h; omega)]; exact h
            · rw [T.get_put, if_neg (by omega)]
            · rw [T.get_put, if_pos rfl]
            · exact ⟨A.mem.below, A.mem.size, A.mem.heap.put_free A.mem.unused _, fun j b hj => Nat.lt_succ_of_lt (A.mem.fresh j b hj), T.top_put (fun j x hj => Nat.lt_succ_of_lt (A.mem.top j x hj)) (Nat.lt_succ_self _)⟩
        · cases he
      · cases he
  obtain ⟨v, tm', hp, htm, hdone, hnx, hext, hlow, hpend, hfact, hmem⟩ := step
  obtain ⟨p1, p2⟩ := putT_ok hp
  have dn : ∀ j, C'.done.testBit j = true ↔ C.done.testBit j = true ∨ j = i := fun j => by
    rw [hdone, testBit_add]
    simp only [Bool.or_eq_true, decide_eq_true_eq]
    exact or_congr Iff.rfl eq_comm
  have ne : ∀ j, C.done.testBit j = true → j ≠ i := fun j h e => hD (e ▸ h)
  have Vn : ∀ j, C.done.testBit j = true → upd V i v j = V j := fun j h => upd_ne V v (ne j h)
  have TMn : ∀ j, C.done.testBit j = true → upd TM i C.tm j = TM j := fun j h => upd_ne TM C.tm (ne j h)
  have IDn : ∀ j, C.done.testBit j = true → upd ID i C.nx j = ID j := fun j h => upd_ne ID C.nx (ne j h)
  refine ⟨upd V i v, upd TM i C.tm, upd ID i C.nx,
    { size := A.size, sub := fun j hj => (dn j).2 (.inl (A.sub j hj)), down := A.down, doneLt := fun j hj => ?_, doneDown := fun j k hj hb' => ?_, effDone := fun j oj h1 h2 h3 => ?_, effAll := fun j oj h1 h2 => ?_,
      k1 := fun j oj d h1 h2 h3 => ?_, k2 := fun t ht => ?_, k5 := fun j oj h1 h2 h3 t ht x hx => ?_, fact := fun j oj h1 h2 h3 => ?_, ids := fun j k oj ok h1 h2 h3 h4 h5 h6 h7 h8 h9 h10 h11 => ?_,
      t1 := fun j oj d h1 h2 h3 => ?_, t2 := A.t2, tsz := A.tsz, defers := A.defers, mem := hmem, gl := A.gl, ext := A.ext, next := Nat.le_trans A.next hnx, still := fun j h1 h2 => ?_ }⟩
  · rcases (dn j).1 hj with h | rfl
    · exact A.doneLt j h
    · exact hi
  · refine (dn k).2 (.inl ?_)
    rcases (dn j).1 hj with h | rfl
    · exact A.doneDown j k h hb'
    · obtain ⟨b', h1, h2⟩ := hb'
      rw [hb] at h1
      cases h1
      exact within_ok hin k h2
  · rcases (dn j).1 h1 with h | rfl
    · exact A.effDone j oj h h2 h3
    · rw [ho] at h2
      cases h2
      rw [hne] at h3
      cases h3
  · rcases A.effAll j oj h1 h2 with h | h
    · exact .inl ((dn j).2 (.inl h))
    · exact .inr h
  · rw [htm]
    rcases (dn j).1 h1 with h | rfl
    · obtain ⟨g1, g2⟩ := A.k1 j oj d h h2 h3
      refine ⟨?_, g2⟩
      rw [p2 d (fun e => ne j h (F.dst j i oj o d h2 ho h3 e)), g1]
      exact congrArg some (Vn j h).symm
    · rw [ho] at h2
      cases h2
      obtain ⟨g1, g2⟩ := p1 d h3
      exact ⟨by rw [g1, upd_same], g2⟩
  · rw [htm, p2 t (fun e => ht i o ((dn i).2 (.inr rfl)) ho e)]
    exact A.k2 t (fun j oj h1 h2 => ht j oj ((dn j).2 (.inl h1)) h2)
  · rcases (dn j).1 h1 with h | rfl
    · rw [TMn j h] at hx
      rcases A.k5 j oj h h2 h3 t ht x hx with ⟨k, ok, g1, g2, g3, g4⟩ | g
      · exact .inl ⟨k, ok, g1, g2, g3, by rw [Vn k (A.doneDown j k h g1)]; exact g4⟩
      · exact .inr g
    · rw [upd_same] at hx
      by_cases hw : ∃ k ok, C.done.testBit k = true ∧ ops[k]? = some ok ∧ ok.dst = some t
      · obtain ⟨k, ok, hk, hok, hd⟩ := hw
        have hvk := (A.k1 k ok t hk hok hd).1
        rw [hx] at hvk
        cases hvk
        rcases F.tmp j oj h3 t ht k ok hok hd with rfl | hb' | hb'
        · exact absurd hk hD
        · exact .inl ⟨k, ok, hb', hok, hd, by rw [Vn k hk]⟩
        · exact absurd (A.doneDown k j hk hb') hD
      · refine .inr ⟨fun k ok hok hd => ?_, ?_⟩
        · rcases F.tmp j oj h3 t ht k ok hok hd with h | hb' | hb'
          · exact .inl h
          · obtain ⟨b', h1', h2'⟩ := hb'
            rw [hb] at h1'
            cases h1'
            exact absurd ⟨k, ok, within_ok hin k h2', hok, hd⟩ hw
          · exact .inr hb'
        · rw [← A.k2 t (fun k ok g1 g2 g3 => hw ⟨k, ok, g1, g2, g3⟩)]
          exact hx
  · rcases (dn j).1 h1 with h | rfl
    · have hf := A.fact j oj h h2 h3
      rw [Vn j h, TMn j h, IDn j h]
      unfold Fact at hf ⊢
      rcases hf with hf | ⟨hw, hf | ⟨hk, hf, hpd⟩ | ⟨hk, blk, f, g1, g2, g3, g4, g5, g6⟩⟩
      · exact .inl hf
      · exact .inr ⟨hw, .inl hf⟩
      · exact .inr ⟨hw, .inr (.inl ⟨hk, evPure_mono hext hk hf, hpend _ hpd⟩)⟩
      · exact .inr ⟨hw, .inr (.inr ⟨hk, blk, f, g1, g2, hext _ _ g3, g4, Nat.lt_of_lt_of_le g5 hnx, g6⟩)⟩
    · rw [ho] at h3
      cases h3
      rw [upd_same, upd_same, upd_same]
      exact hfact
  · -- numbers are apart
    have low : ∀ (k : Nat) (ok : Oper), C.done.testBit k = true → ¬ Ls listed k → ops[k]? = some ok → kindOf E ok = .new → wantedBy (TM k).get ops.toList ok = some true → ID k < C.nx := fun k ok g1 g2 g3 g4 g5 => by
      have hf := A.fact k ok g1 g2 g3
      unfold Fact at hf
      rcases hf with ⟨hf, _⟩ | ⟨_, ⟨hk, _⟩ | ⟨hk, _⟩ | ⟨_, _, _, _, _, _, _, g, _⟩⟩
      · rw [g5] at hf; cases hf
      · rw [g4] at hk; cases hk
      · rw [g4] at hk; cases hk
      · exact g
    rcases (dn j).1 h1 with h | rfl
    · rcases (dn k).1 h2 with h' | rfl
      · rw [TMn j h] at h9
        rw [TMn k h'] at h10
        rw [IDn j h, IDn k h'] at h11
        exact A.ids j k oj ok h h' h3 h4 h5 h6 h7 h8 h9 h10 h11
      · rw [TMn j h] at h9
        rw [IDn j h, upd_same] at h11
        have := low j oj h h3 h5 h7 h9
        omega
    · rcases (dn k).1 h2 with h' | rfl
      · rw [TMn k h'] at h10
        rw [IDn k h', upd_same] at h11
        have := low k ok h' h4 h6 h8 h10
        omega
      · rfl
  · have hj := A.sub j h1
    obtain ⟨u, g1, g2⟩ := A.t1 j oj d h1 h2 h3
    exact ⟨u, g1, by rw [Vn j hj]; exact g2⟩
  · rw [hlow j (Nat.lt_of_lt_of_le h1 A.next)]
    exact A.still j h1 h2

include F in
theorem AI.stage : ∀ (l : List Oper) (bs : List Nat) (k : Nat) (V : Nat → AV) (TM : Nat → T AV) (ID : Nat → Nat) (C C' : Dr), ops.toList.drop k = l → bef.drop k = bs → AI E w0 B ops bef c st a0 es V TM ID cx C listed a w →
    drStage E st.nt ops.toList l bs k C = some C' → ∃ V' TM' ID', AI E w0 B ops bef c st a0 es V' TM' ID' cx C' listed a w
  | [], bs, k, V, TM, ID, C, C', _, _, A, h => by
    simp only [drStage, Option.some.injEq] at h
    subst h
    exact ⟨V, TM, ID, A⟩
  | o :: l, [], k, V, TM, ID, C, C', _, _, A, h => by simp [drStage] at h
  | o :: l, b :: bs, k, V, TM, ID, C, C', hl, hbs, A, h => by
    have ho : ops[k]? = some o := by
      have := congrArg (fun l => l[0]?) hl
      simpa using this
    have hb : nth bef k = some b := by
      have := congrArg (fun l => l[0]?) hbs
      rw [nth_eq]
      simpa using this
    have hl' : ops.toList.drop (k + 1) = l := by
      have := congrArg List.tail hl
      simpa [List.tail_drop] using this
    have hbs' : bef.drop (k + 1) = bs := by
      have := congrArg List.tail hbs
      simpa [List.tail_drop] using this
    simp only [drStage] at h
    split at h
    · exact AI.stage l bs (k + 1) V TM ID C C' hl' hbs' A h
    · rename_i hc
      simp only [Bool.or_eq_false_iff, Bool.not_eq_false'] at hc
      obtain ⟨⟨h1, h2⟩, h3⟩ := hc
      rw [bit_eq] at h2
      split at h
      · rename_i C1 he
        obtain ⟨V1, TM1, ID1, A1⟩ := A.grow F ho h1 (by rw [h2]; simp) hb h3 he
        exact AI.stage l bs (k + 1) V1 TM1 ID1 C1 C' hl' hbs' A1 h
      · cases h

end
end Ev
end Go.Proofs.YtfmnoohkllmbmaaGreatDoor
