/- Vy -/
import Derived.Test.YtihjdfbdpcghdaaDoorZb6
import Derived.IntWalk
set_option linter.unusedVariables false
namespace Go.Proofs.YtihjdfbdpcghdaaDoor
open Go.RowKit
def elemsC : List Ex → Nat → Int → Ts
  | [], _, _ => some []
  | e :: es, i, d => cat (cat (some (if i = 0 then [] else [[44]])) (penE e d 0)) (elemsC es (i + 1) d)
def argsC (es : List Ex) (d : Int) : Ts := need (es.length ≤ 4) (cat (some [[40]]) (cat (elemsC es 0 d) (some [[41]])))
def callC (ty nm : List UInt8) (es : List Ex) (d : Int) : Ts :=
  cat (some [[99, 97, 108, 108]]) (cat (if ty = [] then some [] else cat (need (nameB ty = true) (some [])) (some [ty, [61]])) (cat (some [nm]) (cat (argsC es d) (some [[59]]))))
def placeB (ex : List Ex) : Prop := match ex with
  | [] => False
  | e :: _ => e.kind = 4 ∨ e.kind = 5 ∨ e.kind = 6
instance (ex : List Ex) : Decidable (placeB ex) := by unfold placeB; cases ex <;> infer_instance
section
variable (p : Int) (nm ty : List UInt8) (ex : List Ex) (bd el : List Sm) (d : Int)
theorem penS_plain {k : Int} {xs : List (List (List UInt8))} (hk : ¬ (k = 3 ∨ k = 4)) (hh : stHead k nm ty ex bd.length el.length = true) (hx : penEs ex (d + 1) = some xs) : penS (.mk k p nm ty ex bd el) d = some (shapeS k nm ty xs) := by
  rw [penS, if_pos hh, hx]; exact if_neg hk
theorem penS_head {k : Int} (hh : ¬ stHead k nm ty ex bd.length el.length = true) : penS (.mk k p nm ty ex bd el) d = none := by rw [penS, if_neg hh]
theorem penS_exprs {k : Int} (hx : penEs ex (d + 1) = none) : penS (.mk k p nm ty ex bd el) d = none := by
  rw [penS, hx]; split <;> rfl
theorem penEs_one (a : Ex) (D : Int) : penEs [a] D = (penE a D 0).map fun x => [x] := by
  rw [penEs, penEs]; cases penE a D 0 <;> rfl
theorem penEs_two (a b : Ex) (D : Int) : penEs [a, b] D = match penE a D 0 with | none => none | some x => match penE b D 0 with | none => none | some y => some [x, y] := by
  rw [penEs, penEs_one]; cases penE a D 0 <;> cases penE b D 0 <;> rfl
theorem penS_lock (k : Int) (hk : k = 5 ∨ k = 6) : penS (.mk k p nm ty ex bd el) d = cat (need (nameB nm = true) (some [])) (cat (some [wordS k, nm, [59]]) (need (ty = [] ∧ ex.length = 0 ∧ bd.length = 0 ∧ el.length = 0) (some []))) := by
  by_cases h1 : nameB nm = true
  · by_cases h2 : ty = [] ∧ ex.length = 0 ∧ bd.length = 0 ∧ el.length = 0
    · rw [need_yes h1, need_yes h2]
      obtain ⟨h2, h3, h4, h5⟩ := h2
      obtain rfl := List.eq_nil_of_length_eq_zero h3
      rcases hk with h | h <;> subst h <;> (rw [penS_plain p nm ty [] bd el d (xs := []) (by decide) (by simp [stHead, h1, h2, h4, h5]) rfl]; simp [shapeS, cat])
    · rw [need_no h2, cat_none_r, cat_none_r, penS_head]
      intro h
      rcases hk with h' | h' <;> subst h' <;> exact h2 (by simp [stHead] at h; simp; exact h.2)
  · rw [need_no h1, cat_none_l, penS_head]
    intro h
    rcases hk with h' | h' <;> subst h' <;> exact h1 (by simp [stHead] at h; exact h.1)
theorem penS_send (k : Int) (hk : k = 7 ∨ k = 9) : penS (.mk k p nm ty ex bd el) d = cat (need (nameB nm = true) (some [])) (cat (some [wordS k, nm]) (cat (argC ex d [[59]]) (need (ty = [] ∧ ex.tail.length = 0 ∧ bd.length = 0 ∧ el.length = 0) (some [])))) := by
  by_cases h1 : nameB nm = true
  · by_cases h2 : ty = [] ∧ bd.length = 0 ∧ el.length = 0
    · match ex with
      | [] =>
        rw [show argC [] d [[59]] = none from rfl, cat_none_l, cat_none_r, cat_none_r, penS_head]
        intro h
        rcases hk with h' | h' <;> subst h' <;> simp [stHead] at h
      | [a] =>
        rw [need_yes h1, need_yes ⟨h2.1, rfl, h2.2⟩]
        simp only [argC]
        have hx := penEs_one a (d + 1)
        cases ha : penE a (d + 1) 0 with
        | none => rw [ha] at hx; exact penS_exprs p nm ty [a] bd el d hx
        | some x =>
          rw [ha] at hx
          rcases hk with h | h <;> subst h <;> (rw [penS_plain p nm ty [a] bd el d (xs := [x]) (by decide) (by simp [stHead, h1, h2]) hx]; simp [shapeS, cat])
      | a :: b :: r =>
        rw [need_no (p := ty = [] ∧ (a :: b :: r).tail.length = 0 ∧ bd.length = 0 ∧ el.length = 0) (by simp), cat_none_r, cat_none_r, cat_none_r, penS_head]
        intro h
        rcases hk with h' | h' <;> subst h' <;> simp [stHead] at h
    · rw [need_no (p := ty = [] ∧ ex.tail.length = 0 ∧ bd.length = 0 ∧ el.length = 0) (fun h => h2 ⟨h.1, h.2.2⟩), cat_none_r, cat_none_r, cat_none_r, penS_head]
      intro h
      rcases hk with h' | h' <;> subst h' <;> exact h2 (by simp [stHead] at h; simp; exact ⟨h.2.1, h.2.2.2⟩)
  · rw [need_no h1, cat_none_l, penS_head]
    intro h
    rcases hk with h' | h' <;> subst h' <;> exact h1 (by simp [stHead] at h; exact h.1)
theorem penS_8 : penS (.mk 8 p nm ty ex bd el) d = cat (need (nameB nm = true) (some [])) (cat (need (nameB ty = true) (some [])) (cat (some [wordS 8, nm, ty, [59]]) (need (ex.length = 0 ∧ bd.length = 0 ∧ el.length = 0) (some [])))) := by
  by_cases h1 : nameB nm = true
  · by_cases h0 : nameB ty = true
    · by_cases h2 : ex.length = 0 ∧ bd.length = 0 ∧ el.length = 0
      · rw [need_yes h1, need_yes h0, need_yes h2]
        obtain ⟨h3, h4, h5⟩ := h2
        obtain rfl := List.eq_nil_of_length_eq_zero h3
        rw [penS_plain p nm ty [] bd el d (xs := []) (by decide) (by simp [stHead, h1, h0, h4, h5]) rfl]; simp [shapeS, cat]
      · rw [need_no h2, cat_none_r, cat_none_r, cat_none_r, penS_head]
        intro h
        exact h2 (by simp [stHead] at h; simp; exact h.2.2)
    · rw [need_no h0, cat_none_l, cat_none_r, penS_head]
      intro h
      exact h0 (by simp [stHead] at h; exact h.2.1)
  · rw [need_no h1, cat_none_l, penS_head]
    intro h
    exact h1 (by simp [stHead] at h; exact h.1)
theorem penS_1 : penS (.mk 1 p nm ty ex bd el) d = cat (need (nameB nm = true) (some [])) (cat (some [wordS 1, nm]) (cat (tyT ty) (cat (some [[61]]) (cat (argC ex d [[59]]) (need (ex.tail.length = 0 ∧ bd.length = 0 ∧ el.length = 0) (some [])))))) := by
  by_cases h1 : nameB nm = true
  · cases hty : tyT ty with
    | none =>
      rw [cat_none_l, cat_none_r, cat_none_r, penS_head]
      intro h
      simp [stHead, hty] at h
    | some tt =>
      by_cases h2 : bd.length = 0 ∧ el.length = 0
      · match ex with
        | [] =>
          rw [show argC [] d [[59]] = none from rfl, cat_none_l, cat_none_r, cat_none_r, cat_none_r, cat_none_r, penS_head]
          intro h
          simp [stHead] at h
        | [a] =>
          rw [need_yes h1, need_yes ⟨rfl, h2⟩]
          simp only [argC]
          have hx := penEs_one a (d + 1)
          cases ha : penE a (d + 1) 0 with
          | none => rw [ha] at hx; exact penS_exprs p nm ty [a] bd el d hx
          | some x =>
            rw [ha] at hx
            rw [penS_plain p nm ty [a] bd el d (xs := [x]) (by decide) (by simp [stHead, h1, h2, hty]) hx]; simp [shapeS, cat, hty]
        | a :: b :: r =>
          rw [need_no (p := (a :: b :: r).tail.length = 0 ∧ bd.length = 0 ∧ el.length = 0) (by simp), cat_none_r, cat_none_r, cat_none_r, cat_none_r, cat_none_r, penS_head]
          intro h
          simp [stHead] at h
      · rw [need_no (p := ex.tail.length = 0 ∧ bd.length = 0 ∧ el.length = 0) (fun h => h2 h.2), cat_none_r, cat_none_r, cat_none_r, cat_none_r, cat_none_r, penS_head]
        intro h
        exact h2 (by simp [stHead] at h; simp; exact h.2.2.2)
  · rw [need_no h1, cat_none_l, penS_head]
    intro h
    exact h1 (by simp [stHead] at h; exact h.1)
theorem penS_2 : penS (.mk 2 p nm ty ex bd el) d = cat (need (placeB ex) (some [])) (cat (some [wordS 2]) (cat (argC ex d [[61]]) (cat (argC ex.tail d [[59]]) (need (nm = [] ∧ ty = [] ∧ ex.tail.tail.length = 0 ∧ bd.length = 0 ∧ el.length = 0) (some []))))) := by
  have hpl : stHead 2 nm ty ex bd.length el.length = true ↔ (nm = [] ∧ ty = [] ∧ ex.length = 2 ∧ bd.length = 0 ∧ el.length = 0) ∧ placeB ex := by
    cases ex with
    | nil => simp [stHead, placeB]
    | cons a r => simp [stHead, placeB]
  by_cases h1 : placeB ex
  · by_cases h2 : nm = [] ∧ ty = [] ∧ bd.length = 0 ∧ el.length = 0
    · match ex, h1, hpl with
      | [], h1, _ => exact h1.elim
      | [a], h1, hpl =>
        rw [show argC [a].tail d [[59]] = none from rfl, cat_none_l, cat_none_r, cat_none_r, cat_none_r, penS_head]
        intro h
        have := (hpl.1 h).1.2.2.1
        simp at this
      | [a, b], h1, hpl =>
        rw [need_yes h1, need_yes ⟨h2.1, h2.2.1, rfl, h2.2.2⟩]
        simp only [argC, List.tail_cons]
        have hx := penEs_two a b (d + 1)
        cases ha : penE a (d + 1) 0 with
        | none => rw [ha] at hx; exact penS_exprs p nm ty [a, b] bd el d hx
        | some x =>
          cases hb : penE b (d + 1) 0 with
          | none => rw [ha, hb] at hx; exact penS_exprs p nm ty [a, b] bd el d hx
          | some y =>
            rw [ha, hb] at hx
            rw [penS_plain p nm ty [a, b] bd el d (xs := [x, y]) (by decide) (hpl.2 ⟨⟨h2.1, h2.2.1, rfl, h2.2.2⟩, h1⟩) hx]; simp [shapeS, cat]
      | a :: b :: c :: r, h1, hpl =>
        rw [need_no (p := nm = [] ∧ ty = [] ∧ (a :: b :: c :: r).tail.tail.length = 0 ∧ bd.length = 0 ∧ el.length = 0) (by simp), cat_none_r, cat_none_r, cat_none_r, cat_none_r, penS_head]
        intro h
        have := (hpl.1 h).1.2.2.1
        simp at this
    · rw [need_no (p := nm = [] ∧ ty = [] ∧ ex.tail.tail.length = 0 ∧ bd.length = 0 ∧ el.length = 0) (fun h => h2 ⟨h.1, h.2.1, h.2.2.2⟩), cat_none_r, cat_none_r, cat_none_r, cat_none_r, penS_head]
      intro h
      obtain ⟨h3, h4, _, h5⟩ := (hpl.1 h).1
      exact h2 ⟨h3, h4, h5⟩
  · rw [need_no h1, cat_none_l, penS_head]
    intro h
    exact h1 (hpl.1 h).2
theorem penS_11 : penS (.mk 11 p nm ty ex bd el) d = cat (some [wordS 11]) (cat (if ex.length = 0 then some [] else argC ex d []) (cat (some [[59]]) (need (nm = [] ∧ ty = [] ∧ ex.tail.length = 0 ∧ bd.length = 0 ∧ el.length = 0) (some [])))) := by
  by_cases h2 : nm = [] ∧ ty = [] ∧ bd.length = 0 ∧ el.length = 0
  · match ex with
    | [] =>
      rw [need_yes ⟨h2.1, h2.2.1, rfl, h2.2.2⟩, penS_plain p nm ty [] bd el d (xs := []) (by decide) (by simp [stHead, h2]) rfl]
      simp [shapeS, cat]
    | [a] =>
      rw [need_yes ⟨h2.1, h2.2.1, rfl, h2.2.2⟩, if_neg (by simp)]
      simp only [argC]
      have hx := penEs_one a (d + 1)
      cases ha : penE a (d + 1) 0 with
      | none => rw [ha] at hx; exact penS_exprs p nm ty [a] bd el d hx
      | some x =>
        rw [ha] at hx
        rw [penS_plain p nm ty [a] bd el d (xs := [x]) (by decide) (by simp [stHead, h2]) hx]; simp [shapeS, cat]
    | a :: b :: r =>
      rw [need_no (p := nm = [] ∧ ty = [] ∧ (a :: b :: r).tail.length = 0 ∧ bd.length = 0 ∧ el.length = 0) (by simp), cat_none_r, cat_none_r, cat_none_r, penS_head]
      intro h
      simp [stHead] at h
  · rw [need_no (p := nm = [] ∧ ty = [] ∧ ex.tail.length = 0 ∧ bd.length = 0 ∧ el.length = 0) (fun h => h2 ⟨h.1, h.2.1, h.2.2.2⟩), cat_none_r, cat_none_r, cat_none_r, penS_head]
    intro h
    exact h2 (by simp [stHead] at h; simp; exact ⟨h.1, h.2.1, h.2.2.2⟩)
theorem penS_3 : penS (.mk 3 p nm ty ex bd el) d = cat (some [wordS 3]) (cat (argC ex d []) (cat (penB bd (d + 1)) (cat (if el.length = 0 then some [] else cat (some [[101, 108, 115, 101]]) (penB el (d + 1))) (need (nm = [] ∧ ty = [] ∧ ex.tail.length = 0) (some []))))) := by
  by_cases h2 : nm = [] ∧ ty = []
  · match ex with
    | [] =>
      rw [show argC [] d [] = none from rfl, cat_none_l, cat_none_r, penS_head]
      intro h
      simp [stHead] at h
    | [a] =>
      rw [need_yes ⟨h2.1, h2.2, rfl⟩, cat_nil_r, penS, if_pos (by simp [stHead, h2])]
      have hx := penEs_one a (d + 1)
      simp only [argC]
      cases ha : penE a (d + 1) 0 with
      | none => rw [ha] at hx; rw [hx]; rfl
      | some x =>
        rw [ha] at hx
        rw [hx]
        simp only [Option.map_some, true_or, if_true, penB]
        generalize inBlock (d + 1) (penSs bd (d + 1)) = Q
        generalize (if el.length = 0 then some [] else cat (some [[101, 108, 115, 101]]) (inBlock (d + 1) (penSs el (d + 1)))) = R
        cases Q <;> cases R <;> simp [cat]
    | a :: b :: r =>
      rw [need_no (p := nm = [] ∧ ty = [] ∧ (a :: b :: r).tail.length = 0) (by simp), cat_none_r, cat_none_r, cat_none_r, cat_none_r, penS_head]
      intro h
      simp [stHead] at h
  · rw [need_no (p := nm = [] ∧ ty = [] ∧ ex.tail.length = 0) (fun h => h2 ⟨h.1, h.2.1⟩), cat_none_r, cat_none_r, cat_none_r, cat_none_r, penS_head]
    intro h
    exact h2 (by simp [stHead] at h; exact ⟨h.1, h.2.1⟩)
theorem penS_4 : penS (.mk 4 p nm ty ex bd el) d = cat (some [wordS 4]) (cat (argC ex d []) (cat (penB bd (d + 1)) (need (nm = [] ∧ ty = [] ∧ ex.tail.length = 0 ∧ el.length = 0) (some [])))) := by
  by_cases h2 : nm = [] ∧ ty = [] ∧ el.length = 0
  · match ex with
    | [] =>
      rw [show argC [] d [] = none from rfl, cat_none_l, cat_none_r, penS_head]
      intro h
      simp [stHead] at h
    | [a] =>
      rw [need_yes ⟨h2.1, h2.2.1, rfl, h2.2.2⟩, cat_nil_r, penS, if_pos (by simp [stHead, h2])]
      have hx := penEs_one a (d + 1)
      simp only [argC]
      cases ha : penE a (d + 1) 0 with
      | none => rw [ha] at hx; rw [hx]; rfl
      | some x =>
        rw [ha] at hx
        rw [hx]
        simp only [Option.map_some, or_true, if_true, penB, h2.2.2]
        generalize inBlock (d + 1) (penSs bd (d + 1)) = Q
        cases Q <;> simp [cat]
    | a :: b :: r =>
      rw [need_no (p := nm = [] ∧ ty = [] ∧ (a :: b :: r).tail.length = 0 ∧ el.length = 0) (by simp), cat_none_r, cat_none_r, cat_none_r, penS_head]
      intro h
      simp [stHead] at h
  · rw [need_no (p := nm = [] ∧ ty = [] ∧ ex.tail.length = 0 ∧ el.length = 0) (fun h => h2 ⟨h.1, h.2.1, h.2.2.2⟩), cat_none_r, cat_none_r, cat_none_r, penS_head]
    intro h
    exact h2 (by simp [stHead] at h; simp; exact ⟨h.1, h.2.1, h.2.2.2⟩)
theorem penEs_cons (a : Ex) (es : List Ex) (D : Int) : penEs (a :: es) D = match penE a D 0 with
    | none => none
    | some x => match penEs es D with
      | none => none
      | some xs => some (x :: xs) := by
  rw [penEs]
  cases penE a D 0 with
  | none => rfl
  | some x => cases penEs es D <;> rfl
theorem elemsC_eq : ∀ (es : List Ex) (i : Nat) (D : Int), elemsC es i D = (penEs es D).map fun xs => (if i = 0 ∨ xs = [] then [] else [[44]]) ++ commas xs
  | [], i, D => by simp [elemsC, penEs, commas]
  | [a], i, D => by
    rw [elemsC, elemsC, penEs_one, cat_nil_r]
    cases penE a D 0 with
    | none => simp [cat]
    | some x => by_cases hi : i = 0 <;> simp [cat, commas, hi]
  | a :: b :: r, i, D => by
    rw [elemsC, elemsC_eq (b :: r) (i + 1) D]
    cases ha : penE a D 0 with
    | none => rw [penEs_cons a (b :: r), ha]; simp [cat]
    | some x =>
      rw [penEs_cons a (b :: r), ha]
      cases hb : penEs (b :: r) D with
      | none => simp [cat]
      | some ys =>
        have hne : ys ≠ [] := by
          intro e
          subst e
          rw [penEs_cons] at hb
          split at hb
          · cases hb
          · split at hb <;> cases hb
        obtain ⟨y, ys', rfl⟩ := List.exists_cons_of_ne_nil hne
        by_cases hi : i = 0 <;> simp [cat, commas, hi]
theorem penS_10 : penS (.mk 10 p nm ty ex bd el) d = cat (need (nameB nm = true) (some [])) (cat (callC ty nm ex (d + 1)) (need (bd.length = 0 ∧ el.length = 0) (some []))) := by
  by_cases h1 : nameB nm = true
  · by_cases h2 : bd.length = 0 ∧ el.length = 0
    · rw [need_yes h1, need_yes h2, cat_nil_l, cat_nil_r]
      by_cases h3 : ex.length ≤ 4
      · by_cases h4 : ty = [] ∨ nameB ty = true
        · unfold callC argsC
          rw [need_yes h3, elemsC_eq]
          have hh : stHead 10 nm ty ex bd.length el.length = true := by simp [stHead, h1, h2, h3, h4]
          cases hx : penEs ex (d + 1) with
          | none => rw [penS_exprs p nm ty ex bd el d hx]; simp [cat_none_l, cat_none_r]
          | some xs =>
            rw [penS_plain p nm ty ex bd el d (by decide) hh hx]
            by_cases h5 : ty = []
            · simp [shapeS, cat, h5, wordS]
            · rw [if_neg h5, need_yes (h4.resolve_left h5)]
              simp [shapeS, cat, h5, wordS]
        · have h5 : ¬ ty = [] := fun e => h4 (.inl e)
          unfold callC
          rw [if_neg h5, need_no (fun e => h4 (.inr e)), cat_none_l, cat_none_l, cat_none_r, penS_head]
          intro h
          exact h4 (by simp [stHead] at h; exact h.2.1)
      · unfold callC argsC
        rw [need_no h3, cat_none_l, cat_none_r, cat_none_r, cat_none_r, penS_head]
        intro h
        exact h3 (by simp [stHead] at h; exact h.2.2.1)
    · rw [need_no h2, cat_none_r, cat_none_r, penS_head]
      intro h
      exact h2 (by simp [stHead] at h; simp; exact h.2.2.2)
  · rw [need_no h1, cat_none_l, penS_head]
    intro h
    exact h1 (by simp [stHead] at h; exact h.1)
theorem penS_else (k : Int) (hk : k < 1 ∨ 11 < k) : penS (.mk k p nm ty ex bd el) d = none := by
  refine penS_head p nm ty ex bd el d ?_
  unfold stHead
  rw [if_neg (show ¬ k = 1 by omega), if_neg (show ¬ k = 2 by omega), if_neg (show ¬ k = 3 by omega), if_neg (show ¬ k = 4 by omega), if_neg (show ¬ k = 5 by omega), if_neg (show ¬ k = 6 by omega), if_neg (show ¬ k = 7 by omega), if_neg (show ¬ k = 8 by omega), if_neg (show ¬ k = 9 by omega), if_neg (show ¬ k = 10 by omega), if_neg (show ¬ k = 11 by omega)]
  simp
end
end Go.Proofs.YtihjdfbdpcghdaaDoor
