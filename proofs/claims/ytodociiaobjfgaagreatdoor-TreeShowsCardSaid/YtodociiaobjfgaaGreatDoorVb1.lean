/- Vy -/
import Derived.Test.YtodociiaobjfgaaGreatDoorVa4
set_option linter.unusedVariables false
set_option linter.unusedSimpArgs false
namespace Go.Proofs.YtodociiaobjfgaaGreatDoor
open Go.RowKit
section
def Xea : List Ex → Nat → Int → Ts
 | [], _, _ => some []
 | e :: es, i, d => cat (cat (some (if i = 0 then [] else [[44]])) (penE e d 0)) (Xea es (i + 1) d)
def Xhj (es : List Ex) (d : Int) : Ts := need (es.length ≤ 4) (cat (some [[40]]) (cat (Xea es 0 d) (some [[41]])))
def Xha (ty nm : List UInt8) (es : List Ex) (d : Int) : Ts :=
 cat (some [[99, 97, 108, 108]]) (cat (if ty = [] then some [] else cat (need (Xam ty = true) (some [])) (some [ty, [61]])) (cat (some [nm]) (cat (Xhj es d) (some [[59]]))))
def Xfp (ex : List Ex) : Prop := match ex with
 | [] => False
 | e :: _ => e.kind = 4 ∨ e.kind = 5 ∨ e.kind = 6
instance (ex : List Ex) : Decidable (Xfp ex) := by unfold Xfp; cases ex <;> infer_instance
section
variable (p : Int) (nm ty : List UInt8) (ex : List Ex) (bd el : List Sm) (d : Int)
theorem Xdk {k : Int} {xs : List (List (List UInt8))} (hk : ¬ (k = 3 ∨ k = 4)) (hh : Xay k nm ty ex bd.length el.length = true) (hx : Xdc ex (d + 1) = some xs) : penS (.mk k p nm ty ex bd el) d = some (Xbc k nm ty xs) := by
 rw [penS, if_pos hh, hx]; exact if_neg hk
theorem Xav {k : Int} (hh : ¬ Xay k nm ty ex bd.length el.length = true) : penS (.mk k p nm ty ex bd el) d = none := by rw [penS, if_neg hh]
theorem Xef {k : Int} (hx : Xdc ex (d + 1) = none) : penS (.mk k p nm ty ex bd el) d = none := by
 rw [penS, hx]; split <;> rfl
theorem Xej (a : Ex) (D : Int) : Xdc [a] D = (penE a D 0).map fun x => [x] := by
 rw [Xdc, Xdc]; cases penE a D 0 <;> rfl
theorem Xvo (a b : Ex) (D : Int) : Xdc [a, b] D = match penE a D 0 with | none => none | some x => match penE b D 0 with | none => none | some y => some [x, y] := by
 rw [Xdc, Xej]; cases penE a D 0 <;> cases penE b D 0 <;> rfl
theorem Xhr (k : Int) (hk : k = 5 ∨ k = 6) : penS (.mk k p nm ty ex bd el) d = cat (need (Xam nm = true) (some [])) (cat (some [Xbf k, nm, [59]]) (need (ty = [] ∧ ex.length = 0 ∧ bd.length = 0 ∧ el.length = 0) (some []))) := by
 by_cases h1 : Xam nm = true
 · by_cases h2 : ty = [] ∧ ex.length = 0 ∧ bd.length = 0 ∧ el.length = 0
   · rw [Xai h1, Xai h2]
     obtain ⟨h2, h3, h4, h5⟩ := h2
     obtain rfl := List.eq_nil_of_length_eq_zero h3
     rcases hk with h | h <;> subst h <;> (rw [Xdk p nm ty [] bd el d (xs := []) (by decide) (by simp [Xay, h1, h2, h4, h5]) rfl]; simp [Xbc, cat])
   · rw [Xag h2, Xac, Xac, Xav]
     intro h
     rcases hk with h' | h' <;> subst h' <;> exact h2 (by simp [Xay] at h; simp; exact h.2)
 · rw [Xag h1, Xan, Xav]
   intro h
   rcases hk with h' | h' <;> subst h' <;> exact h1 (by simp [Xay] at h; exact h.1)
theorem Xhs (k : Int) (hk : k = 7 ∨ k = 9) : penS (.mk k p nm ty ex bd el) d = cat (need (Xam nm = true) (some [])) (cat (some [Xbf k, nm]) (cat (argC ex d [[59]]) (need (ty = [] ∧ ex.tail.length = 0 ∧ bd.length = 0 ∧ el.length = 0) (some [])))) := by
 by_cases h1 : Xam nm = true
 · by_cases h2 : ty = [] ∧ bd.length = 0 ∧ el.length = 0
   · match ex with
     | [] =>
       rw [show argC [] d [[59]] = none from rfl, Xan, Xac, Xac, Xav]
       intro h
       rcases hk with h' | h' <;> subst h' <;> simp [Xay] at h
     | [a] =>
       rw [Xai h1, Xai ⟨h2.1, rfl, h2.2⟩]
       simp only [argC]
       have hx := Xej a (d + 1)
       cases ha : penE a (d + 1) 0 with
       | none => rw [ha] at hx; exact Xef p nm ty [a] bd el d hx
       | some x =>
         rw [ha] at hx
         rcases hk with h | h <;> subst h <;> (rw [Xdk p nm ty [a] bd el d (xs := [x]) (by decide) (by simp [Xay, h1, h2]) hx]; simp [Xbc, cat])
     | a :: b :: r =>
       rw [Xag (p := ty = [] ∧ (a :: b :: r).tail.length = 0 ∧ bd.length = 0 ∧ el.length = 0) (by simp), Xac, Xac, Xac, Xav]
       intro h
       rcases hk with h' | h' <;> subst h' <;> simp [Xay] at h
   · rw [Xag (p := ty = [] ∧ ex.tail.length = 0 ∧ bd.length = 0 ∧ el.length = 0) (fun h => h2 ⟨h.1, h.2.2⟩), Xac, Xac, Xac, Xav]
     intro h
     rcases hk with h' | h' <;> subst h' <;> exact h2 (by simp [Xay] at h; simp; exact ⟨h.2.1, h.2.2.2⟩)
 · rw [Xag h1, Xan, Xav]
   intro h
   rcases hk with h' | h' <;> subst h' <;> exact h1 (by simp [Xay] at h; exact h.1)
theorem Xvu : penS (.mk 8 p nm ty ex bd el) d = cat (need (Xam nm = true) (some [])) (cat (need (Xam ty = true) (some [])) (cat (some [Xbf 8, nm, ty, [59]]) (need (ex.length = 0 ∧ bd.length = 0 ∧ el.length = 0) (some [])))) := by
 by_cases h1 : Xam nm = true
 · by_cases h0 : Xam ty = true
   · by_cases h2 : ex.length = 0 ∧ bd.length = 0 ∧ el.length = 0
     · rw [Xai h1, Xai h0, Xai h2]
       obtain ⟨h3, h4, h5⟩ := h2
       obtain rfl := List.eq_nil_of_length_eq_zero h3
       rw [Xdk p nm ty [] bd el d (xs := []) (by decide) (by simp [Xay, h1, h0, h4, h5]) rfl]; simp [Xbc, cat]
     · rw [Xag h2, Xac, Xac, Xac, Xav]
       intro h
       exact h2 (by simp [Xay] at h; simp; exact h.2.2)
   · rw [Xag h0, Xan, Xac, Xav]
     intro h
     exact h0 (by simp [Xay] at h; exact h.2.1)
 · rw [Xag h1, Xan, Xav]
   intro h
   exact h1 (by simp [Xay] at h; exact h.1)
theorem penS_1 : penS (.mk 1 p nm ty ex bd el) d = cat (need (Xam nm = true) (some [])) (cat (some [Xbf 1, nm]) (cat (tyT ty) (cat (some [[61]]) (cat (argC ex d [[59]]) (need (ex.tail.length = 0 ∧ bd.length = 0 ∧ el.length = 0) (some [])))))) := by
 by_cases h1 : Xam nm = true
 · cases hty : tyT ty with
   | none =>
     rw [Xan, Xac, Xac, Xav]
     intro h
     simp [Xay, hty] at h
   | some tt =>
     by_cases h2 : bd.length = 0 ∧ el.length = 0
     · match ex with
       | [] =>
         rw [show argC [] d [[59]] = none from rfl, Xan, Xac, Xac, Xac, Xac, Xav]
         intro h
         simp [Xay] at h
       | [a] =>
         rw [Xai h1, Xai ⟨rfl, h2⟩]
         simp only [argC]
         have hx := Xej a (d + 1)
         cases ha : penE a (d + 1) 0 with
         | none => rw [ha] at hx; exact Xef p nm ty [a] bd el d hx
         | some x =>
           rw [ha] at hx
           rw [Xdk p nm ty [a] bd el d (xs := [x]) (by decide) (by simp [Xay, h1, h2, hty]) hx]; simp [Xbc, cat, hty]
       | a :: b :: r =>
         rw [Xag (p := (a :: b :: r).tail.length = 0 ∧ bd.length = 0 ∧ el.length = 0) (by simp), Xac, Xac, Xac, Xac, Xac, Xav]
         intro h
         simp [Xay] at h
     · rw [Xag (p := ex.tail.length = 0 ∧ bd.length = 0 ∧ el.length = 0) (fun h => h2 h.2), Xac, Xac, Xac, Xac, Xac, Xav]
       intro h
       exact h2 (by simp [Xay] at h; simp; exact h.2.2.2)
 · rw [Xag h1, Xan, Xav]
   intro h
   exact h1 (by simp [Xay] at h; exact h.1)
theorem Xvt : penS (.mk 2 p nm ty ex bd el) d = cat (need (Xfp ex) (some [])) (cat (some [Xbf 2]) (cat (argC ex d [[61]]) (cat (argC ex.tail d [[59]]) (need (nm = [] ∧ ty = [] ∧ ex.tail.tail.length = 0 ∧ bd.length = 0 ∧ el.length = 0) (some []))))) := by
 have hpl : Xay 2 nm ty ex bd.length el.length = true ↔ (nm = [] ∧ ty = [] ∧ ex.length = 2 ∧ bd.length = 0 ∧ el.length = 0) ∧ Xfp ex := by
  cases ex with
  | nil => simp [Xay, Xfp]
  | cons a r => simp [Xay, Xfp]
 by_cases h1 : Xfp ex
 · by_cases h2 : nm = [] ∧ ty = [] ∧ bd.length = 0 ∧ el.length = 0
   · match ex, h1, hpl with
     | [], h1, _ => exact h1.elim
     | [a], h1, hpl =>
       rw [show argC [a].tail d [[59]] = none from rfl, Xan, Xac, Xac, Xac, Xav]
       intro h
       have := (hpl.1 h).1.2.2.1
       simp at this
     | [a, b], h1, hpl =>
       rw [Xai h1, Xai ⟨h2.1, h2.2.1, rfl, h2.2.2⟩]
       simp only [argC, List.tail_cons]
       have hx := Xvo a b (d + 1)
       cases ha : penE a (d + 1) 0 with
       | none => rw [ha] at hx; exact Xef p nm ty [a, b] bd el d hx
       | some x =>
         cases hb : penE b (d + 1) 0 with
         | none => rw [ha, hb] at hx; exact Xef p nm ty [a, b] bd el d hx
         | some y =>
           rw [ha, hb] at hx
           rw [Xdk p nm ty [a, b] bd el d (xs := [x, y]) (by decide) (hpl.2 ⟨⟨h2.1, h2.2.1, rfl, h2.2.2⟩, h1⟩) hx]; simp [Xbc, cat]
     | a :: b :: c :: r, h1, hpl =>
       rw [Xag (p := nm = [] ∧ ty = [] ∧ (a :: b :: c :: r).tail.tail.length = 0 ∧ bd.length = 0 ∧ el.length = 0) (by simp), Xac, Xac, Xac, Xac, Xav]
       intro h
       have := (hpl.1 h).1.2.2.1
       simp at this
   · rw [Xag (p := nm = [] ∧ ty = [] ∧ ex.tail.tail.length = 0 ∧ bd.length = 0 ∧ el.length = 0) (fun h => h2 ⟨h.1, h.2.1, h.2.2.2⟩), Xac, Xac, Xac, Xac, Xav]
     intro h
     obtain ⟨h3, h4, _, h5⟩ := (hpl.1 h).1
     exact h2 ⟨h3, h4, h5⟩
 · rw [Xag h1, Xan, Xav]
   intro h
   exact h1 (hpl.1 h).2
theorem Xvs : penS (.mk 11 p nm ty ex bd el) d = cat (some [Xbf 11]) (cat (if ex.length = 0 then some [] else argC ex d []) (cat (some [[59]]) (need (nm = [] ∧ ty = [] ∧ ex.tail.length = 0 ∧ bd.length = 0 ∧ el.length = 0) (some [])))) := by
 by_cases h2 : nm = [] ∧ ty = [] ∧ bd.length = 0 ∧ el.length = 0
 · match ex with
   | [] =>
     rw [Xai ⟨h2.1, h2.2.1, rfl, h2.2.2⟩, Xdk p nm ty [] bd el d (xs := []) (by decide) (by simp [Xay, h2]) rfl]
     simp [Xbc, cat]
   | [a] =>
     rw [Xai ⟨h2.1, h2.2.1, rfl, h2.2.2⟩, if_neg (by simp)]
     simp only [argC]
     have hx := Xej a (d + 1)
     cases ha : penE a (d + 1) 0 with
     | none => rw [ha] at hx; exact Xef p nm ty [a] bd el d hx
     | some x =>
       rw [ha] at hx
       rw [Xdk p nm ty [a] bd el d (xs := [x]) (by decide) (by simp [Xay, h2]) hx]; simp [Xbc, cat]
   | a :: b :: r =>
     rw [Xag (p := nm = [] ∧ ty = [] ∧ (a :: b :: r).tail.length = 0 ∧ bd.length = 0 ∧ el.length = 0) (by simp), Xac, Xac, Xac, Xav]
     intro h
     simp [Xay] at h
 · rw [Xag (p := nm = [] ∧ ty = [] ∧ ex.tail.length = 0 ∧ bd.length = 0 ∧ el.length = 0) (fun h => h2 ⟨h.1, h.2.1, h.2.2.2⟩), Xac, Xac, Xac, Xav]
   intro h
   exact h2 (by simp [Xay] at h; simp; exact ⟨h.1, h.2.1, h.2.2.2⟩)
theorem penS_3 : penS (.mk 3 p nm ty ex bd el) d = cat (some [Xbf 3]) (cat (argC ex d []) (cat (penB bd (d + 1)) (cat (if el.length = 0 then some [] else cat (some [[101, 108, 115, 101]]) (penB el (d + 1))) (need (nm = [] ∧ ty = [] ∧ ex.tail.length = 0) (some []))))) := by
 by_cases h2 : nm = [] ∧ ty = []
 · match ex with
   | [] =>
     rw [show argC [] d [] = none from rfl, Xan, Xac, Xav]
     intro h
     simp [Xay] at h
   | [a] =>
     rw [Xai ⟨h2.1, h2.2, rfl⟩, Xeh, penS, if_pos (by simp [Xay, h2])]
     have hx := Xej a (d + 1)
     simp only [argC]
     cases ha : penE a (d + 1) 0 with
     | none => rw [ha] at hx; rw [hx]; rfl
     | some x =>
       rw [ha] at hx
       rw [hx]
       simp only [Option.map_some, true_or, if_true, penB]
       generalize Xcv (d + 1) (Xdd bd (d + 1)) = Q
       generalize (if el.length = 0 then some [] else cat (some [[101, 108, 115, 101]]) (Xcv (d + 1) (Xdd el (d + 1)))) = R
       cases Q <;> cases R <;> simp [cat]
   | a :: b :: r =>
     rw [Xag (p := nm = [] ∧ ty = [] ∧ (a :: b :: r).tail.length = 0) (by simp), Xac, Xac, Xac, Xac, Xav]
     intro h
     simp [Xay] at h
 · rw [Xag (p := nm = [] ∧ ty = [] ∧ ex.tail.length = 0) (fun h => h2 ⟨h.1, h.2.1⟩), Xac, Xac, Xac, Xac, Xav]
   intro h
   exact h2 (by simp [Xay] at h; exact ⟨h.1, h.2.1⟩)
theorem penS_4 : penS (.mk 4 p nm ty ex bd el) d = cat (some [Xbf 4]) (cat (argC ex d []) (cat (penB bd (d + 1)) (need (nm = [] ∧ ty = [] ∧ ex.tail.length = 0 ∧ el.length = 0) (some [])))) := by
 by_cases h2 : nm = [] ∧ ty = [] ∧ el.length = 0
 · match ex with
   | [] =>
     rw [show argC [] d [] = none from rfl, Xan, Xac, Xav]
     intro h
     simp [Xay] at h
   | [a] =>
     rw [Xai ⟨h2.1, h2.2.1, rfl, h2.2.2⟩, Xeh, penS, if_pos (by simp [Xay, h2])]
     have hx := Xej a (d + 1)
     simp only [argC]
     cases ha : penE a (d + 1) 0 with
     | none => rw [ha] at hx; rw [hx]; rfl
     | some x =>
       rw [ha] at hx
       rw [hx]
       simp only [Option.map_some, or_true, if_true, penB, h2.2.2]
       generalize Xcv (d + 1) (Xdd bd (d + 1)) = Q
       cases Q <;> simp [cat]
   | a :: b :: r =>
     rw [Xag (p := nm = [] ∧ ty = [] ∧ (a :: b :: r).tail.length = 0 ∧ el.length = 0) (by simp), Xac, Xac, Xac, Xav]
     intro h
     simp [Xay] at h
 · rw [Xag (p := nm = [] ∧ ty = [] ∧ ex.tail.length = 0 ∧ el.length = 0) (fun h => h2 ⟨h.1, h.2.1, h.2.2.2⟩), Xac, Xac, Xac, Xav]
   intro h
   exact h2 (by simp [Xay] at h; simp; exact ⟨h.1, h.2.1, h.2.2.2⟩)
theorem Xih (a : Ex) (es : List Ex) (D : Int) : Xdc (a :: es) D = match penE a D 0 with
  | none => none
  | some x => match Xdc es D with
    | none => none
    | some xs => some (x :: xs) := by
 rw [Xdc]
 cases penE a D 0 with
 | none => rfl
 | some x => cases Xdc es D <;> rfl
theorem Xmt : ∀ (es : List Ex) (i : Nat) (D : Int), Xea es i D = (Xdc es D).map fun xs => (if i = 0 ∨ xs = [] then [] else [[44]]) ++ commas xs
 | [], i, D => by simp [Xea, Xdc, commas]
 | [a], i, D => by
   rw [Xea, Xea, Xej, Xeh]
   cases penE a D 0 with
   | none => simp [cat]
   | some x => by_cases hi : i = 0 <;> simp [cat, commas, hi]
 | a :: b :: r, i, D => by
   rw [Xea, Xmt (b :: r) (i + 1) D]
   cases ha : penE a D 0 with
   | none => rw [Xih a (b :: r), ha]; simp [cat]
   | some x =>
     rw [Xih a (b :: r), ha]
     cases hb : Xdc (b :: r) D with
     | none => simp [cat]
     | some ys =>
       have hne : ys ≠ [] := by
        intro e
        subst e
        rw [Xih] at hb
        split at hb
        · cases hb
        · split at hb <;> cases hb
       obtain ⟨y, ys', rfl⟩ := List.exists_cons_of_ne_nil hne
       by_cases hi : i = 0 <;> simp [cat, commas, hi]
theorem Xvr : penS (.mk 10 p nm ty ex bd el) d = cat (need (Xam nm = true) (some [])) (cat (Xha ty nm ex (d + 1)) (need (bd.length = 0 ∧ el.length = 0) (some []))) := by
 by_cases h1 : Xam nm = true
 · by_cases h2 : bd.length = 0 ∧ el.length = 0
   · rw [Xai h1, Xai h2, Xbh, Xeh]
     by_cases h3 : ex.length ≤ 4
     · by_cases h4 : ty = [] ∨ Xam ty = true
       · unfold Xha Xhj
         rw [Xai h3, Xmt]
         have hh : Xay 10 nm ty ex bd.length el.length = true := by simp [Xay, h1, h2, h3, h4]
         cases hx : Xdc ex (d + 1) with
         | none => rw [Xef p nm ty ex bd el d hx]; simp [Xan, Xac]
         | some xs =>
           rw [Xdk p nm ty ex bd el d (by decide) hh hx]
           by_cases h5 : ty = []
           · simp [Xbc, cat, h5, Xbf]
           · rw [if_neg h5, Xai (h4.resolve_left h5)]
             simp [Xbc, cat, h5, Xbf]
       · have h5 : ¬ ty = [] := fun e => h4 (.inl e)
         unfold Xha
         rw [if_neg h5, Xag (fun e => h4 (.inr e)), Xan, Xan, Xac, Xav]
         intro h
         exact h4 (by simp [Xay] at h; exact h.2.1)
     · unfold Xha Xhj
       rw [Xag h3, Xan, Xac, Xac, Xac, Xav]
       intro h
       exact h3 (by simp [Xay] at h; exact h.2.2.1)
   · rw [Xag h2, Xac, Xac, Xav]
     intro h
     exact h2 (by simp [Xay] at h; simp; exact h.2.2.2)
 · rw [Xag h1, Xan, Xav]
   intro h
   exact h1 (by simp [Xay] at h; exact h.1)
theorem Xvv (k : Int) (hk : k < 1 ∨ 11 < k) : penS (.mk k p nm ty ex bd el) d = none := by
 refine Xav p nm ty ex bd el d ?_
 unfold Xay
 rw [if_neg (show ¬ k = 1 by omega), if_neg (show ¬ k = 2 by omega), if_neg (show ¬ k = 3 by omega), if_neg (show ¬ k = 4 by omega), if_neg (show ¬ k = 5 by omega), if_neg (show ¬ k = 6 by omega), if_neg (show ¬ k = 7 by omega), if_neg (show ¬ k = 8 by omega), if_neg (show ¬ k = 9 by omega), if_neg (show ¬ k = 10 by omega), if_neg (show ¬ k = 11 by omega)]
 simp
end
end
end Go.Proofs.YtodociiaobjfgaaGreatDoor
