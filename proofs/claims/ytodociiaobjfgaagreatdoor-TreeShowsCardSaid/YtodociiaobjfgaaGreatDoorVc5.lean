/- Ro Ka Kk Kc Ke Ri -/
import Derived.Test.YtodociiaobjfgaaGreatDoorVa2
import Derived.Test.YtodociiaobjfgaaGreatDoorRows
import Derived.ProofKit
import Derived.Deep.Slices
import Derived.OpenShut
import Derived.ChangeMaps5
import Derived.Deep.WholeRow
set_option linter.unusedVariables false
set_option linter.unusedSimpArgs false
namespace Go.Proofs.YtodociiaobjfgaaGreatDoor
open Go.RowKit
section
open Go.ChangeShapes Go.WideShapes Go.ChangeAt Go.RowKit
theorem Tryz.own : ownKnob Tryz.prog.godebug = none := by kernel_rfl
theorem Tryz.laidOut : laidOutB Tryz.prog = true := by kernel_rfl
theorem Xwp {H : Type} {enc : TypeId × Value → H} {W : World} {base : Nat} {sp : Nat → Bool} {held : Bool} (b : Bool) : DataW.Trod enc Tryz.prog W base sp held 4 (.bool b) (.lit (.bool b)) [] :=
 ⟨1, by simp [DataW.trod, Value.cells, Tryz.underlying4]⟩
end
def ownN (k : Int) : Int := if k = 5 ∨ k = 6 ∨ k = 11 ∨ k = 13 then 2 else if k = 7 ∨ k = 8 ∨ k = 9 ∨ k = 10 ∨ k = 12 then 3 else 1
def numB (k n : Int) : Bool := decide (n = 0 ∨ (k = 1 ∧ 0 < n ∧ n < 1000000000000000000) ∨ (k = 2 ∧ n = 1))
def Xcm (k : Int) (s : List UInt8) : Bool := if k = 4 ∨ k = 5 ∨ k = 11 ∨ k = 13 then Xam s else if k = 9 then decide (s = [45] ∨ s = [33]) else if k = 10 then decide (s ∈ opsL) else decide (s = [])
mutual
def Xdb : Ex → Int → Int → Int → Int
 | .mk k _ n s args, depth, chain, left =>
   if left < 1 ∨ 24 < depth ∨ k < 1 ∨ 13 < k ∨ args.length ≠ argsN k then -1
   else if numB k n = true ∧ Xcm k s = true then Xcb args (Xbb k) depth chain (left - ownN k) else -1
def Xcb : List Ex → Bool → Int → Int → Int → Int
 | [], _, _, _, left => left
 | e :: es, b, depth, chain, left => if left < 0 then left else if b = true then (if chain = 8 then -1 else Xcb es false depth chain (Xdb e depth (chain + 1) left)) else Xcb es false depth chain (Xdb e (depth + 1) 0 left)
end
theorem Xse {k : Int} (h1 : 1 ≤ k) (h2 : k ≤ 13) : k = 1 ∨ k = 2 ∨ k = 3 ∨ k = 4 ∨ k = 5 ∨ k = 6 ∨ k = 7 ∨ k = 8 ∨ k = 9 ∨ k = 10 ∨ k = 11 ∨ k = 12 ∨ k = 13 := by omega
theorem Xng {k n chain : Int} {s : List UInt8} (h : Xcj k n s chain = true) : 1 ≤ k ∧ k ≤ 13 := by
 unfold Xcj at h
 by_cases h1 : 1 ≤ k ∧ k ≤ 13
 · exact h1
 · rw [if_neg (by omega), if_neg (by omega), if_neg (by omega), if_neg (by omega), if_neg (by omega), if_neg (by omega), if_neg (by omega), if_neg (by omega), if_neg (by omega), if_neg (by omega), if_neg (by omega), if_neg (by omega), if_neg (by omega)] at h
   cases h
theorem Xlu {k n chain : Int} {s : List UInt8} (h1 : 1 ≤ k) (h2 : k ≤ 13) : Xcj k n s chain = true ↔ (numB k n = true ∧ Xcm k s = true) ∧ (Xbb k = true → chain < 8) := by
 unfold Xcj numB Xcm Xbb
 rcases Xse h1 h2 with rfl | rfl | rfl | rfl | rfl | rfl | rfl | rfl | rfl | rfl | rfl | rfl | rfl
 all_goals
  first
  | (simp [and_assoc]; done)
  | (simp
     constructor
     · rintro ⟨a, b, c⟩; exact ⟨by omega, c⟩
     · rintro ⟨a, c⟩; exact ⟨by omega, by omega, c⟩)
theorem Xkc {k n : Int} {s : List UInt8} {xs : List (List (List UInt8))} (h1 : 1 ≤ k) (h2 : k ≤ 13) (h : xs.length = argsN k) : ((Xbg k n s xs).length : Int) = ownN k + ((xs.map List.length).sum : Nat) := by
 unfold argsN at h
 unfold ownN
 rcases Xse h1 h2 with rfl | rfl | rfl | rfl | rfl | rfl | rfl | rfl | rfl | rfl | rfl | rfl | rfl
 all_goals rcases xs with _ | ⟨a, _ | ⟨b, _ | ⟨c, _ | ⟨d, r⟩⟩⟩⟩
 all_goals
  first
  | (exfalso; simp at h; done)
  | (simp [Xbg]; done)
  | (simp [Xbg]; omega)
  | (simp only [Xbg]; split <;> simp; done)
  | (simp [Xbg]; split <;> simp; done)
theorem Xjo : ∀ (es : List Ex) (b : Bool) (d c : Int) (xs : List (List (List UInt8))), Xdt es b d c = some xs → xs.length = es.length
 | [], b, d, c, xs, h => by rw [Xdt] at h; cases h; rfl
 | e :: es, b, d, c, xs, h => by
   rw [Xdt] at h
   split at h
   · cases h
   · split at h
     · cases h
     · rename_i x _ ys h3
       cases h
       rw [List.length_cons, List.length_cons, Xjo es false d c ys h3]
def Left (r left : Int) : Option Nat → Prop
 | none => r < 0
 | some n => if (n : Int) ≤ left then r = left - n else r < 0
mutual
theorem Xgd : ∀ (e : Ex) (depth chain left : Int), chain ≤ 8 → Left (Xdb e depth chain left) left ((penE e depth chain).map List.length) ∧ ∀ T, penE e depth chain = some T → 1 ≤ T.length
 | .mk k p n s args, depth, chain, left, hc => by
   rw [Xdb, penE]
   by_cases hk : 1 ≤ k ∧ k ≤ 13
   · obtain ⟨k1, k2⟩ := hk
     by_cases hd : depth ≤ 24 ∧ Xcj k n s chain = true ∧ args.length = argsN k
     · obtain ⟨d1, d2, d3⟩ := hd
       obtain ⟨d4, d5⟩ := (Xlu k1 k2).1 d2
       have dd : depth ≤ 24 ∧ Xcj k n s chain = true ∧ args.length = argsN k := ⟨d1, d2, d3⟩
       rw [if_pos dd, if_pos d4]
       have hs := Xkv args (Xbb k) depth chain (left - ownN k) hc d5
       cases hp : Xdt args (Xbb k) depth chain with
       | none =>
         rw [hp] at hs
         refine ⟨?_, fun T h => by cases h⟩
         show ite _ _ _ < 0
         split
         · omega
         · exact hs
       | some xs =>
         rw [hp] at hs
         have hl := Xkc (n := n) (s := s) k1 k2 ((Xjo _ _ _ _ _ hp).trans d3)
         have ho : 1 ≤ ownN k := by unfold ownN; split <;> (try split) <;> omega
         have h1 : 1 ≤ (Xbg k n s xs).length := by omega
         refine ⟨?_, fun T h => by cases h; exact h1⟩
         have hs' : if (((xs.map List.length).sum : Nat) : Int) ≤ left - ownN k then Xcb args (Xbb k) depth chain (left - ownN k) = left - ownN k - ((xs.map List.length).sum : Nat) else Xcb args (Xbb k) depth chain (left - ownN k) < 0 := hs
         show if (((Xbg k n s xs).length : Nat) : Int) ≤ left then ite _ _ _ = left - ((Xbg k n s xs).length : Nat) else ite _ _ _ < 0
         by_cases hle : (((Xbg k n s xs).length : Nat) : Int) ≤ left
         · rw [if_pos hle, if_neg (by omega)]
           rw [if_pos (by omega)] at hs'
           omega
         · rw [if_neg hle]
           split
           · omega
           · rw [if_neg (by omega)] at hs'
             exact hs'
     · rw [if_neg hd]
       refine ⟨?_, fun T h => by cases h⟩
       show ite _ _ _ < 0
       split
       · omega
       · split
         · rename_i h3 h4
           have h5 : ¬ (Xbb k = true → chain < 8) := fun h5 => hd ⟨by omega, (Xlu k1 k2).2 ⟨h4, h5⟩, by omega⟩
           have hb : Xbb k = true := by
            by_cases hb : Xbb k = true
            · exact hb
            · exact absurd (fun h => absurd h hb) h5
           have hc8 : chain = 8 := by
            by_cases h8 : chain < 8
            · exact absurd (fun _ => h8) h5
            · omega
           have hal : args.length = argsN k := by omega
           have hk2 : k = 5 ∨ k = 6 ∨ k = 7 := by unfold Xbb at hb; simpa using hb
           cases args with
           | nil =>
             unfold argsN at hal
             rcases hk2 with rfl | rfl | rfl <;> simp at hal
           | cons e es =>
             rw [Xcb, hb, if_pos rfl, if_pos hc8]
             split <;> omega
         · omega
   · have dd : ¬ (depth ≤ 24 ∧ Xcj k n s chain = true ∧ args.length = argsN k) := fun h => hk (Xng h.2.1)
     rw [if_neg dd, if_pos (by omega)]
     exact ⟨(by show (-1 : Int) < 0; omega), fun T h => by cases h⟩
theorem Xkv : ∀ (es : List Ex) (b : Bool) (depth chain left : Int), chain ≤ 8 → (b = true → chain < 8) → Left (Xcb es b depth chain left) left ((Xdt es b depth chain).map fun xs => (xs.map List.length).sum)
 | [], b, depth, chain, left, hc, hb => by
   rw [Xcb, Xdt]
   show if (((0 : Nat)) : Int) ≤ left then left = left - ((0 : Nat) : Int) else left < 0
   split <;> omega
 | e :: es, b, depth, chain, left, hc, hb => by
   rw [Xcb, Xdt]
   by_cases hl : left < 0
   · rw [if_pos hl]
     split
     · exact hl
     · split
       · exact hl
       · show if _ then _ else _
         rw [if_neg (by omega)]
         exact hl
   · rw [if_neg hl]
     have key : ∀ (r : Int) (c : Ts), (Left r left (c.map List.length)) → Left (Xcb es false depth chain r) left (Option.map (fun xs => (List.map List.length xs).sum) (match c with | none => none | some x => match Xdt es false depth chain with | none => none | some xs => some (x :: xs))) := by
      intro r c hr
      have hs := Xkv es false depth chain r hc (fun h => by cases h)
      cases c with
      | none =>
        have hr' : r < 0 := hr
        cases es with
        | nil => rw [Xcb]; exact hr'
        | cons e2 es2 => rw [Xcb, if_pos hr']; exact hr'
      | some x =>
        have hr' : if ((x.length : Nat) : Int) ≤ left then r = left - (x.length : Nat) else r < 0 := hr
        cases hp : Xdt es false depth chain with
        | none => rw [hp] at hs; exact hs
        | some xs =>
          rw [hp] at hs
          have hs' : if (((xs.map List.length).sum : Nat) : Int) ≤ r then Xcb es false depth chain r = r - ((xs.map List.length).sum : Nat) else Xcb es false depth chain r < 0 := hs
          show if ((((x :: xs).map List.length).sum : Nat) : Int) ≤ left then Xcb es false depth chain r = left - (((x :: xs).map List.length).sum : Nat) else Xcb es false depth chain r < 0
          simp only [List.map_cons, List.sum_cons]
          split
          · rw [if_pos (by omega)] at hr'
            rw [if_pos (by omega)] at hs'
            omega
          · by_cases h2 : ((x.length : Nat) : Int) ≤ left
            · rw [if_pos h2] at hr'
              rw [if_neg (by omega)] at hs'
              exact hs'
            · rw [if_neg h2] at hr'
              rw [if_neg (by omega)] at hs'
              exact hs'
     by_cases hb1 : b = true
     · rw [if_pos hb1, if_pos hb1, if_neg (by have := hb hb1; omega)]
       exact key _ _ (Xgd e depth (chain + 1) left (by have := hb hb1; omega)).1
     · rw [if_neg hb1, if_neg hb1]
       exact key _ _ (Xgd e (depth + 1) 0 left (by omega)).1
end
def addO : Option Nat → Option Nat → Option Nat
 | some a, some b => some (a + b)
 | _, _ => none
theorem Xcf (a b : Ts) : (cat a b).map List.length = addO (a.map List.length) (b.map List.length) := by
 cases a <;> cases b <;> simp [cat, addO]
theorem Left.comp {r l r2 : Int} {a b : Option Nat} (h1 : Left r l a) (h2 : Left r2 r b) : Left r2 l (addO a b) := by
 cases a with
 | none =>
   have h1' : r < 0 := h1
   show r2 < 0
   cases b with
   | none => exact h2
   | some n =>
     have h2' : if (n : Int) ≤ r then r2 = r - n else r2 < 0 := h2
     rw [if_neg (by omega)] at h2'; exact h2'
 | some m =>
   have h1' : if (m : Int) ≤ l then r = l - m else r < 0 := h1
   cases b with
   | none => exact h2
   | some n =>
     have h2' : if (n : Int) ≤ r then r2 = r - n else r2 < 0 := h2
     show if (((m + n : Nat)) : Int) ≤ l then r2 = l - ((m + n : Nat) : Int) else r2 < 0
     split at h1' <;> split at h2' <;> split <;> omega
theorem Left.own (l : Int) (n : Nat) : Left (l - n) l (some n) := by
 show if (n : Int) ≤ l then l - n = l - n else l - n < 0
 split <;> omega
theorem Left.bad (l : Int) : Left (-1) l none := by show (-1 : Int) < 0; omega
theorem Left.zero (l : Int) : Left l l (some 0) := by
 have := Left.own l 0
 simpa using this
theorem Left.stop {r l : Int} {b : Option Nat} (h : 0 ≤ l → Left r l b) : Left (if l < 0 then l else r) l b := by
 by_cases hl : l < 0
 · rw [if_pos hl]
   cases b with
   | none => exact hl
   | some n => show if (n : Int) ≤ l then _ else _; rw [if_neg (by omega)]; exact hl
 · rw [if_neg hl]; exact h (by omega)
theorem Left.le {r l : Int} {b : Option Nat} (h : Left r l b) (hl : 0 ≤ l) : r ≤ l := by
 cases b with
 | none => have : r < 0 := h; omega
 | some n =>
   have h' : if (n : Int) ≤ l then r = l - n else r < 0 := h
   split at h' <;> omega
def tyN (t : List UInt8) : Nat := ((tyT t).getD []).length
theorem Xjd {t : List UInt8} (h : tyT t = none) : tyN t = 0 := by unfold tyN; rw [h]; rfl
theorem Xhy {t : List UInt8} {T : List (List UInt8)} (h : tyT t = some T) : tyN t = T.length := by unfold tyN; rw [h]; rfl
theorem Xev {t : List UInt8} {T : List (List UInt8)} (h : tyT t = some T) : 1 ≤ T.length ∧ T.length ≤ 3 := by
 unfold tyT at h
 split at h
 · split at h
   · cases h; simp
   · cases h
 · split at h
   · cases h; simp
   · split at h
     · cases h; simp
     · cases h
theorem Xpz {t : List UInt8} : 0 < tyN t ↔ (tyT t).isSome = true := by
 cases h : tyT t with
 | none => rw [Xjd h]; simp
 | some T => rw [Xhy h]; have := Xev h; simp; omega
theorem Xxh (t : List UInt8) : tyN t ≤ 3 := by
 cases h : tyT t with
 | none => rw [Xjd h]; omega
 | some T => rw [Xhy h]; exact (Xev h).2
theorem Xxi : tyT [] = none := by decide
def exsB : List Ex → Int → Int → Int
 | [], _, left => left
 | e :: es, d, left => if left < 0 then left else exsB es d (Xdb e d 0 left)
def sumL (xs : List (List (List UInt8))) : Nat := (xs.map List.length).sum
theorem Xlp : ∀ (es : List Ex) (d left : Int), Left (exsB es d left) left ((Xdc es d).map sumL)
 | [], d, left => by
   rw [exsB, Xdc]
   exact Left.zero left
 | e :: es, d, left => by
   rw [exsB, Xdc]
   refine Left.stop fun _ => ?_
   have h1 := (Xgd e d 0 left (by omega)).1
   have h2 := Xlp es d (Xdb e d 0 left)
   have h3 := h1.comp h2
   cases hp : penE e d 0 with
   | none => rw [hp] at h3; exact h3
   | some x =>
     rw [hp] at h3
     cases hq : Xdc es d with
     | none => rw [hq] at h3; exact h3
     | some xs =>
       rw [hq] at h3
       have e : ((some (x :: xs)).map sumL) = addO ((some x).map List.length) ((some xs).map sumL) := by simp [addO, sumL]
       show Left _ _ ((some (x :: xs)).map sumL)
       rw [e]; exact h3
theorem Xhq : ∀ (es : List Ex) (d : Int) (xs : List (List (List UInt8))), Xdc es d = some xs → xs.length = es.length
 | [], d, xs, h => by rw [Xdc] at h; cases h; rfl
 | e :: es, d, xs, h => by
   rw [Xdc] at h
   split at h
   · cases h
   · split at h
     · cases h
     · rename_i x _ ys h3
       cases h
       rw [List.length_cons, List.length_cons, Xhq es d ys h3]
def ownS (k : Int) (ty : List UInt8) (nx : Nat) : Nat :=
 if k = 1 then 4 + tyN ty else if k = 2 then 3 else if k = 3 ∨ k = 4 then 1 else if k = 8 then 4 else if k = 10 then 5 + (if ty = [] then 0 else 2) + (nx - 1) else if k = 11 then 2 else 3
theorem Xib : ∀ xs : List (List (List UInt8)), (commas xs).length = sumL xs + (xs.length - 1)
 | [] => by simp [commas, sumL]
 | [a] => by simp [commas, sumL]
 | a :: b :: r => by
   have := Xib (b :: r)
   rw [commas, List.length_append, List.length_cons, this]
   simp [sumL]; omega
theorem Xix (xs : List (List (List UInt8))) : xs.flatten.length = sumL xs := by simp [sumL, List.length_flatten]
theorem Xod {k : Int} (h1 : 1 ≤ k) (h2 : k ≤ 11) : k = 1 ∨ k = 2 ∨ k = 3 ∨ k = 4 ∨ k = 5 ∨ k = 6 ∨ k = 7 ∨ k = 8 ∨ k = 9 ∨ k = 10 ∨ k = 11 := by omega
theorem Xem {k : Int} {nm ty : List UInt8} {ex : List Ex} {nb nl : Nat} (h : Xay k nm ty ex nb nl = true) : 1 ≤ k ∧ k ≤ 11 := by
 unfold Xay at h
 by_cases h1 : 1 ≤ k ∧ k ≤ 11
 · exact h1
 · rw [if_neg (by omega), if_neg (by omega), if_neg (by omega), if_neg (by omega), if_neg (by omega), if_neg (by omega), if_neg (by omega), if_neg (by omega), if_neg (by omega), if_neg (by omega), if_neg (by omega)] at h
   cases h
theorem Xik {k : Int} {nm ty : List UInt8} {ex : List Ex} {nb nl : Nat} {xs : List (List (List UInt8))} (h : Xay k nm ty ex nb nl = true) (hx : xs.length = ex.length) (h3 : ¬ (k = 3 ∨ k = 4)) : (Xbc k nm ty xs).length = ownS k ty ex.length + sumL xs := by
 obtain ⟨k1, k2⟩ := Xem h
 rcases Xod k1 k2 with rfl | rfl | rfl | rfl | rfl | rfl | rfl | rfl | rfl | rfl | rfl
 all_goals try (exfalso; exact h3 (by omega))
 all_goals simp [Xay] at h
 · simp only [Xbc, ownS, if_pos, List.length_append, Xix, tyN]
   simp; omega
 · obtain ⟨a, r, rfl⟩ : ∃ a r, xs = a :: r := by
    cases xs with
    | nil => simp at hx; omega
    | cons a r => exact ⟨a, r, rfl⟩
   simp [Xbc, ownS, List.length_append, sumL, List.length_flatten]; omega
 · have e : xs = [] := List.eq_nil_of_length_eq_zero (by rw [hx]; simp [h])
   subst e; simp [Xbc, ownS, sumL]
 · have e : xs = [] := List.eq_nil_of_length_eq_zero (by rw [hx]; simp [h])
   subst e; simp [Xbc, ownS, sumL]
 · simp [Xbc, ownS, List.length_append, sumL, List.length_flatten]; omega
 · have e : xs = [] := List.eq_nil_of_length_eq_zero (by rw [hx]; simp [h])
   subst e; simp [Xbc, ownS, sumL]
 · simp [Xbc, ownS, List.length_append, sumL, List.length_flatten]; omega
 · by_cases ht : ty = []
   · simp [Xbc, ownS, List.length_append, Xib, ht]; omega
   · simp [Xbc, ownS, List.length_append, Xib, ht]; omega
 · simp [Xbc, ownS, List.length_append, sumL, List.length_flatten]; omega
mutual
def Xkh : Sm → Int → Int → Int
 | .mk k _ nm ty ex bd el, depth, left =>
   if left < 1 ∨ Xay k nm ty ex bd.length el.length = false then -1
   else
    let l1 := exsB ex (depth + 1) (left - ownS k ty ex.length)
    let l2 := if 0 ≤ l1 ∧ (k = 3 ∨ k = 4) then (if 24 < depth + 1 then -1 else Xdv bd (depth + 1) (l1 - 2)) else l1
    if el.length = 0 then l2 else if 1 ≤ l2 then (if 24 < depth + 1 then -1 else Xdv el (depth + 1) (l2 - 1 - 2)) else -1
def Xdv : List Sm → Int → Int → Int
 | [], _, left => left
 | s :: ss, d, left => if left < 0 then left else Xdv ss d (Xkh s d left)
end
def Xbw (ss : List Sm) (d left : Int) : Int := if 24 < d then -1 else Xdv ss d (left - 2)
def Xfa (k : Int) (bd : List Sm) (d l1 : Int) : Int := if 0 ≤ l1 ∧ (k = 3 ∨ k = 4) then Xbw bd d l1 else l1
def Xfv (el : List Sm) (d l2 : Int) : Int := if el.length = 0 then l2 else if 1 ≤ l2 then Xbw el d (l2 - 1) else -1
theorem Xre (k p : Int) (nm ty : List UInt8) (ex : List Ex) (bd el : List Sm) (depth left : Int) : Xkh (.mk k p nm ty ex bd el) depth left =
  if left < 1 ∨ Xay k nm ty ex bd.length el.length = false then -1 else Xfv el (depth + 1) (Xfa k bd (depth + 1) (exsB ex (depth + 1) (left - ownS k ty ex.length))) := by
 rw [Xkh]; rfl
theorem Xpc (d : Int) (c : Ts) : (Xcv d c).map List.length = if d ≤ 24 then addO (some 2) (c.map List.length) else none := by
 unfold Xcv
 split
 · cases c with
   | none => rfl
   | some T => simp [cat, addO]; omega
 · rfl
theorem Xgz {ss : List Sm} {d left : Int} (h : Left (Xdv ss d (left - 2)) (left - 2) ((Xdd ss d).map List.length)) : Left (Xbw ss d left) left ((penB ss d).map List.length) := by
 unfold Xbw penB
 rw [Xpc]
 by_cases hd : 24 < d
 · rw [if_pos hd, if_neg (by omega)]; exact Left.bad _
 · rw [if_neg hd, if_pos (by omega)]
   exact (Left.own left 2).comp h
mutual
theorem Xki : ∀ (s : Sm) (depth left : Int), Left (Xkh s depth left) left ((penS s depth).map List.length) ∧ ∀ T, penS s depth = some T → 1 ≤ T.length
 | .mk k p nm ty ex bd el, depth, left => by
   have hbd := fun l => Xgz (Xgt bd (depth + 1) (l - 2))
   have hel := fun l => Xgz (Xgt el (depth + 1) (l - 2))
   obtain ⟨C, hC⟩ : ∃ C, C = penS (.mk k p nm ty ex bd el) depth := ⟨_, rfl⟩
   rw [Xre, ← hC]
   rw [penS] at hC
   cases hh : Xay k nm ty ex bd.length el.length with
   | false =>
     rw [hh, if_neg (by simp)] at hC
     rw [if_pos (.inr rfl), hC]
     exact ⟨Left.bad _, fun T h => by cases h⟩
   | true =>
     rw [hh, if_pos rfl] at hC
     have h1 := (Left.own left (ownS k ty ex.length)).comp (Xlp ex (depth + 1) (left - ownS k ty ex.length))
     have ho : 1 ≤ ownS k ty ex.length := by unfold ownS; (repeat' split) <;> omega
     have hT : ∀ T, C = some T → 1 ≤ T.length := by
      intro T h
      rw [h] at hC
      split at hC
      · cases hC
      · rename_i xs hx
        split at hC
        · revert hC
          generalize cat (Xcv (depth + 1) (Xdd bd (depth + 1))) _ = D
          cases D with
          | none => intro h; cases h
          | some c => intro h; cases h; simp
        · rename_i h34
          cases hC
          rw [Xik hh (Xhq _ _ _ hx) h34]; omega
     refine ⟨?_, hT⟩
     by_cases hl : left < 1
     · rw [if_pos (.inl hl)]
       cases C with
       | none => exact Left.bad _
       | some T =>
         have := hT T rfl
         show if ((T.length : Nat) : Int) ≤ left then _ else _
         rw [if_neg (by omega)]; omega
     · rw [if_neg (by simp; omega)]
       generalize hl1 : exsB ex (depth + 1) (left - ownS k ty ex.length) = l1 at h1 ⊢
       cases hx : Xdc ex (depth + 1) with
       | none =>
         rw [hx] at h1 hC
         have h1' : l1 < 0 := h1
         have hb : Xfa k bd (depth + 1) l1 = l1 := by unfold Xfa; rw [if_neg (fun h => by omega)]
         rw [hC, hb]
         show Xfv el (depth + 1) l1 < 0
         unfold Xfv
         split
         · exact h1'
         · rw [if_neg (by omega)]; omega
       | some xs =>
         rw [hx] at h1 hC
         have hC2 : C = if k = 3 ∨ k = 4 then cat (some ([Xbf k] ++ xs.flatten)) (cat (Xcv (depth + 1) (Xdd bd (depth + 1))) (if el.length = 0 then some [] else cat (some [[101, 108, 115, 101]]) (Xcv (depth + 1) (Xdd el (depth + 1))))) else some (Xbc k nm ty xs) := hC
         by_cases h34 : k = 3 ∨ k = 4
         · have ho1 : ownS k ty ex.length = 1 := by unfold ownS; rcases h34 with rfl | rfl <;> simp
           have h2 : Left (Xfa k bd (depth + 1) l1) l1 ((penB bd (depth + 1)).map List.length) := by
            unfold Xfa
            by_cases h0 : 0 ≤ l1
            · rw [if_pos ⟨h0, h34⟩]; exact hbd l1
            · rw [if_neg (by omega)]
              have := Left.stop (r := l1) (l := l1) (b := (penB bd (depth + 1)).map List.length) (fun h => absurd h h0)
              rwa [if_pos (by omega)] at this
           have h3 : Left (Xfv el (depth + 1) (Xfa k bd (depth + 1) l1)) (Xfa k bd (depth + 1) l1) ((if el.length = 0 then some [] else cat (some [[101, 108, 115, 101]]) (Xcv (depth + 1) (Xdd el (depth + 1))) : Ts).map List.length) := by
            generalize Xfa k bd (depth + 1) l1 = l2
            unfold Xfv
            by_cases he : el.length = 0
            · rw [if_pos he, if_pos he]; exact Left.zero _
            · rw [if_neg he, if_neg he, Xcf]
              have h4 := (Left.own l2 1).comp (hel (l2 - ((1 : Nat) : Int)))
              by_cases h1l : 1 ≤ l2
              · rw [if_pos h1l]; exact h4
              · rw [if_neg h1l]
                have : ∀ b, Left (-1) l2 (addO (some 1) b) := fun b => by
                 cases b with
                 | none => exact Left.bad _
                 | some n =>
                   show if (((1 + n : Nat)) : Int) ≤ l2 then _ else _
                   rw [if_neg (by omega)]; omega
                exact this _
           have h5 := h1.comp (h2.comp h3)
           rw [hC2, if_pos h34, Xcf, Xcf]
           have e : (some ([Xbf k] ++ xs.flatten) : Ts).map List.length = addO (some (ownS k ty ex.length)) ((some xs).map sumL) := by
            rw [ho1]
            show some ([Xbf k] ++ xs.flatten).length = some (1 + sumL xs)
            rw [List.length_append, Xix]; rfl
           rw [e]
           exact h5
         · have h2 : Xfv el (depth + 1) (Xfa k bd (depth + 1) l1) = l1 := by
            have hel0 : el.length = 0 := by
             obtain ⟨k1, k2⟩ := Xem hh
             rcases Xod k1 k2 with rfl | rfl | rfl | rfl | rfl | rfl | rfl | rfl | rfl | rfl | rfl
             all_goals try (exfalso; exact h34 (by omega))
             all_goals (simp [Xay] at hh; simp [hh])
            unfold Xfv Xfa
            rw [if_pos hel0, if_neg (fun h => h34 h.2)]
           rw [h2, hC2, if_neg h34]
           have e : (some (Xbc k nm ty xs) : Ts).map List.length = addO (some (ownS k ty ex.length)) ((some xs).map sumL) := by
            show some (Xbc k nm ty xs).length = some (ownS k ty ex.length + sumL xs)
            rw [Xik hh (Xhq _ _ _ hx) h34]
           rw [e]; exact h1
theorem Xgt : ∀ (ss : List Sm) (d left : Int), Left (Xdv ss d left) left ((Xdd ss d).map List.length)
 | [], d, left => by rw [Xdv, Xdd]; exact Left.zero left
 | s :: ss, d, left => by
   rw [Xdv, Xdd, Xcf]
   exact Left.stop fun _ => (Xki s d left).1.comp (Xgt ss d (Xkh s d left))
end
theorem Xks (ss : List Sm) (d left : Int) : Left (Xbw ss d left) left ((penB ss d).map List.length) := Xgz (Xgt ss d (left - 2))
def Xcn : List Pr → Int → Int
 | [], left => left
 | p :: ps, left => if Xam p.name = true ∧ (tyT p.type).isSome = true then Xcn ps (left - ((1 + tyN p.type : Nat) : Int)) else -1
theorem Xvq (p : Pr) : (Xfw p).map List.length = if Xam p.name = true ∧ (tyT p.type).isSome = true then some (1 + tyN p.type) else none := by
 unfold Xfw nmT
 by_cases hn : Xam p.name = true
 · rw [if_pos hn]
   cases h : tyT p.type with
   | none => simp [cat]
   | some T => rw [Xhy h]; simp [cat, hn]; omega
 · rw [if_neg hn, if_neg (fun h => hn h.1)]; rfl
def prsN : List Pr → Option Nat
 | [] => some 0
 | p :: ps => addO ((Xfw p).map List.length) (prsN ps)
theorem Xgr : ∀ (ps : List Pr) (left : Int), Left (Xcn ps left) left (prsN ps)
 | [], left => by rw [Xcn, prsN]; exact Left.zero left
 | p :: ps, left => by
   rw [Xcn, prsN, Xvq]
   by_cases h : Xam p.name = true ∧ (tyT p.type).isSome = true
   · rw [if_pos h, if_pos h]
     exact (Left.own left (1 + tyN p.type)).comp (Xgr ps _)
   · rw [if_neg h, if_neg h]
     exact Left.bad _
theorem Xjs : ∀ ps : List Pr, (Xek ps).map List.length = addO (some ps.length) (prsN ps)
 | [] => rfl
 | p :: ps => by
   rw [Xek, prsN, Xcf, Xcf, Xjs ps]
   cases (Xfw p).map List.length <;> cases prsN ps <;> simp [addO]; omega
theorem Xns : ∀ (ps : List Pr) (i : Nat), (Xdu ps i).map List.length = addO (some (if i = 0 then ps.length - 1 else ps.length)) (prsN ps)
 | [], i => by rw [Xdu, prsN]; split <;> rfl
 | p :: ps, i => by
   rw [Xdu, prsN, Xcf, Xcf, Xns ps (i + 1)]
   cases (Xfw p).map List.length <;> cases prsN ps <;> by_cases hi : i = 0 <;> simp [addO, hi] <;> omega
def Xeq (d : Dc) : Bool :=
 decide (1 ≤ d.kind ∧ d.kind ≤ 8 ∧ Xam d.name = true ∧ (if d.kind = 2 then 1 ≤ d.num ∧ d.num ≤ 4 else d.num = 0) ∧ (d.kind = 7 ∨ d.kind = 8 ∨ d.body.length = 0) ∧
  (if d.kind = 4 then (tyT d.type).isSome = true else if d.kind = 7 then (d.type = [] ∨ (tyT d.type).isSome = true) else d.type = []) ∧
  (d.kind = 3 ∨ d.kind = 7 ∨ d.pairs.length = 0))
def ownD (d : Dc) : Nat := if d.kind = 2 ∨ d.kind = 3 then 4 else if d.kind = 4 then 3 + tyN d.type else if d.kind = 7 then 4 + tyN d.type else if d.kind = 8 then 2 else 3
def Xno (d : Dc) (left : Int) : Int :=
 if d.kind = 3 then (if 8 < d.pairs.length then -1 else Xcn d.pairs (left - (d.pairs.length : Nat)))
 else if d.kind = 7 then (if 4 < d.pairs.length then -1 else Xcn d.pairs (left - ((d.pairs.length - 1 : Nat) : Int))) else left
def Xkp (d : Dc) (left : Int) : Int :=
 if Xeq d = false then -1 else if 0 ≤ Xno d (left - ownD d) ∧ (d.kind = 7 ∨ d.kind = 8) then Xbw d.body 1 (Xno d (left - ownD d)) else Xno d (left - ownD d)
theorem Xho {p : Prop} [Decidable p] (h : p) (c : Ts) : need p c = c := by unfold need; rw [if_pos h]
theorem Xdo {p : Prop} [Decidable p] (h : ¬ p) (c : Ts) : need p c = none := by unfold need; rw [if_neg h]
theorem Xqj {k : Int} (h1 : 1 ≤ k) (h2 : k ≤ 8) : k = 1 ∨ k = 2 ∨ k = 3 ∨ k = 4 ∨ k = 5 ∨ k = 6 ∨ k = 7 ∨ k = 8 := by omega
theorem Xvh {d : Dc} (h : Xeq d = false) : penD d = none := by
 obtain ⟨k, p, n, nm, ty, prs, bd⟩ := d
 unfold Xeq at h
 have h := of_decide_eq_false h
 unfold penD
 by_cases hn : Xam nm = true
 · rw [Xho hn, Xbh]
   by_cases hk : 1 ≤ k ∧ k ≤ 8
   · rcases Xqj hk.1 hk.2 with rfl | rfl | rfl | rfl | rfl | rfl | rfl | rfl
     all_goals simp [hn] at h ⊢
     · exact Xdo (fun ⟨a, b, c, e⟩ => by simp [a, b, e] at h; exact h (by simpa using c)) _
     · exact Xdo (fun ⟨a, b, c, e, f⟩ => by simp [a, b, c, f] at h; exact h (by simpa using e)) _
     · exact Xdo (fun ⟨a, b, c, e⟩ => by simp [a, b] at h; exact h (by simpa using e)) _
     · by_cases hc : n = 0 ∧ prs.length = 0 ∧ bd.length = 0
       · rw [Xho (by simpa using hc)]
         cases ht : tyT ty with
         | none => rfl
         | some T => exfalso; simp [hc.1, ht] at h; exact h (by simpa using hc.2.2) (by simpa using hc.2.1)
       · exact Xdo (by simpa using hc) _
     · exact Xdo (fun ⟨a, b, c, e⟩ => by simp [a, b, e] at h; exact h (by simpa using c)) _
     · exact Xdo (fun ⟨a, b, c, e⟩ => by simp [a, b, e] at h; exact h (by simpa using c)) _
     · by_cases hc : n = 0
       · have ht : ty ≠ [] ∧ tyT ty = none := by simpa [hc] using h
         rw [if_neg ht.1, ht.2]
         unfold need
         split
         · rw [Xan, Xac]
           cases Xdu prs 0 <;> rfl
         · rfl
       · exact Xdo (fun h2 => hc h2.1) _
     · exact Xdo (fun ⟨a, b, c⟩ => by simp [a, b] at h; exact h (by simpa using c)) _
   · simp only
     rw [if_neg (by omega), if_neg (by omega), if_neg (by omega), if_neg (by omega), if_neg (by omega), if_neg (by omega), if_neg (by omega), if_neg (by omega)]
 · rw [Xdo hn]; rfl
def partO (d : Dc) : Option Nat :=
 if d.kind = 3 then (if 8 < d.pairs.length then none else addO (some d.pairs.length) (prsN d.pairs))
 else if d.kind = 7 then (if 4 < d.pairs.length then none else addO (some (d.pairs.length - 1)) (prsN d.pairs)) else some 0
def bodyO (d : Dc) : Option Nat := if d.kind = 7 ∨ d.kind = 8 then (penB d.body 1).map List.length else some 0
theorem penD_len {d : Dc} (h : Xeq d = true) : (penD d).map List.length = addO (some (ownD d)) (addO (partO d) (bodyO d)) := by
 obtain ⟨k, p, n, nm, ty, prs, bd⟩ := d
 unfold Xeq at h
 have h := of_decide_eq_true h
 obtain ⟨k1, k2, hn, hnum, hbd, hty, hpr⟩ := h
 unfold penD ownD partO bodyO
 rw [Xho hn, Xbh]
 rcases Xqj k1 k2 with rfl | rfl | rfl | rfl | rfl | rfl | rfl | rfl
 all_goals simp at hnum hbd hty hpr
 · simp [need, hnum, hbd, hty, hpr, addO]
 · simp [need, hnum, hbd, hty, hpr, addO]
 · by_cases h8 : 8 < prs.length
   · simp [need, hnum, hbd, hty, h8, addO]; intro h; omega
   · simp [need, hnum, hbd, hty, h8, Xcf, Xjs]
     rw [if_pos (by omega), Xcf, Xcf, Xjs]
     cases prsN prs <;> simp [addO]; omega
 · obtain ⟨T, hT⟩ := Option.isSome_iff_exists.1 hty
   simp [need, hnum, hbd, hpr, hT, cat, addO, Xhy hT]; omega
 · simp [need, hnum, hbd, hty, hpr, addO]
 · simp [need, hnum, hbd, hty, hpr, addO]
 · by_cases h4 : 4 < prs.length
   · simp [need, hnum, h4, addO]; intro h; omega
   · have hty2 : ((if ty = [] then some [] else tyT ty : Ts)).map List.length = some (tyN ty) := by
      by_cases h0 : ty = []
      · rw [if_pos h0, h0, Xjd Xxi]; rfl
      · rw [if_neg h0]
        obtain ⟨T, hT⟩ := Option.isSome_iff_exists.1 (hty.resolve_left h0)
        rw [hT, Xhy hT]; rfl
     simp only [need]
     rw [if_neg (show ¬ (7 : Int) = 1 by decide), if_neg (show ¬ (7 : Int) = 2 by decide), if_neg (show ¬ (7 : Int) = 3 by decide), if_neg (show ¬ (7 : Int) = 4 by decide), if_neg (show ¬ (7 : Int) = 5 by decide), if_neg (show ¬ (7 : Int) = 6 by decide), if_pos trivial, if_pos (show n = 0 ∧ prs.length ≤ 4 from ⟨hnum, by omega⟩), Xcf, Xcf, Xcf, Xcf, Xns, hty2]
     simp [h4]
     cases prsN prs <;> cases (penB bd 1).map List.length <;> simp [addO]
     omega
 · simp [need, hnum, hty, hpr, Xcf]
   cases (penB bd 1).map List.length <;> simp [addO]
theorem Xms (d : Dc) (left : Int) : Left (Xkp d left) left ((penD d).map List.length) := by
 unfold Xkp
 cases h : Xeq d with
 | false => rw [if_pos rfl, Xvh h]; exact Left.bad _
 | true =>
   rw [if_neg (by simp), penD_len h]
   have h1 : Left (Xno d (left - ownD d)) (left - ownD d) (partO d) := by
    unfold Xno partO
    split
    · split
      · exact Left.bad _
      · exact (Left.own _ _).comp (Xgr _ _)
    · split
      · split
        · exact Left.bad _
        · exact (Left.own _ _).comp (Xgr _ _)
      · exact Left.zero _
   refine (Left.own left (ownD d)).comp (h1.comp ?_)
   generalize Xno d (left - ownD d) = l
   unfold bodyO
   by_cases hk : d.kind = 7 ∨ d.kind = 8
   · rw [if_pos hk]
     by_cases h0 : 0 ≤ l
     · rw [if_pos ⟨h0, hk⟩]; exact Xks _ _ _
     · rw [if_neg (fun h => h0 h.1)]
       have := Left.stop (r := l) (l := l) (b := (penB d.body 1).map List.length) (fun h => absurd h h0)
       rwa [if_pos (by omega)] at this
   · rw [if_neg (fun h => hk h.2), if_neg hk]
     exact Left.zero _
def dcsB : List Dc → Int → Int
 | [], left => left
 | d :: ds, left => if left < 0 then left else dcsB ds (Xkp d left)
theorem Xqh : ∀ (ds : List Dc) (left : Int), Left (dcsB ds left) left ((Xei ds).map List.length)
 | [], left => by rw [dcsB, Xei]; exact Left.zero left
 | d :: ds, left => by
   rw [dcsB, Xei, Xcf]
   exact Left.stop fun _ => (Xms d left).comp (Xqh ds (Xkp d left))
def stV (l : List (List UInt8)) : List Value := l.map fun t => Value.string (Xaa t)
theorem stV_app (a b : List (List UInt8)) : stV (a ++ b) = stV a ++ stV b := by simp [stV]
theorem Xmf (a : List (List UInt8)) : (stV a).length = a.length := by simp [stV]
theorem stV_one {t : List (List UInt8)} : ∀ u ∈ stV t, u.oneCell' = true := fun u hu => by
 obtain ⟨x, _, rfl⟩ := List.mem_map.1 hu
 rfl
def Xau (w : World) (base : Nat) (v : Value) (l : List (List UInt8)) : Prop := w.ownsRow base 9 1 v l.length (stV l)
theorem Xqn : (Tryz.prog.info? 9).map (fun i => (i.zero, i.size, i.bytes)) = some (some (.string ⟨#[]⟩), 1, 16) := by kernel_rfl
theorem Xuz : (Tryz.prog.info? 53).map (fun i => (i.zero, i.size, i.bytes)) = some (some (.slice none 0 0), 1, 24) := by kernel_rfl
def Xeo (w : World) (B : Nat) (v : Value) (t : List (List UInt8)) : Prop :=
 ∃ g c cur, v = .slice (some ⟨g, 0, none⟩) t.length c ∧ g < B ∧ w.heap[g]? = some (.cells cur 9 (0, 0)) ∧ ∀ (j : Nat) (u : Value), (stV t)[j]? = some u → w.cell? ((⟨g, 0, none⟩ : Addr).add j) = some u
theorem Xeo.keep {w w' : World} {B B' : Nat} {v : Value} {t : List (List UInt8)} (h : Xeo w B v t) (hb : ∀ g, v.ownBlock = some g → w'.heap[g]? = w.heap[g]?) (hB : B ≤ B') : Xeo w' B' v t := by
 obtain ⟨g, c, cur, rfl, hg, hc, hj⟩ := h
 have e := hb g rfl
 refine ⟨g, c, cur, rfl, by omega, e.trans hc, fun j u hu => ?_⟩
 have e2 : w'.heap[((⟨g, 0, none⟩ : Addr).add j).block]? = w.heap[((⟨g, 0, none⟩ : Addr).add j).block]? := by rw [Xco]; exact e
 exact (World.cell?_of_block (w := w) e2).trans (hj j u hu)
theorem Xeo.below {w w' : World} {B B' K : Nat} {v : Value} {t : List (List UInt8)} (h : Xeo w B v t) (hb : Below K w w') (hK : B ≤ K) (hB : B ≤ B') : Xeo w' B' v t := by
 refine h.keep (fun g hg => ?_) hB
 obtain ⟨g', c, cur, rfl, hlt, _, _⟩ := h
 have e : g' = g := by simpa [Value.ownBlock] using hg
 subst e
 exact hb.block _ (by omega)
theorem Xau.nil (w : World) (base : Nat) : Xau w base (.slice none 0 0) [] := ⟨rfl, .inl ⟨rfl, rfl⟩⟩
theorem Xau.base {w : World} {b b' : Nat} {v : Value} {l : List (List UInt8)} (h : Xau w b v l) (hb : b' ≤ b) : Xau w b' v l := by
 rcases h with ⟨h1, h2 | ⟨g, cap, cur, hv, hbg, hg, h3⟩⟩
 · exact ⟨h1, .inl h2⟩
 · exact ⟨h1, .inr ⟨g, cap, cur, hv, by omega, hg, h3⟩⟩
theorem Xau.keep {w w' : World} {base : Nat} {v : Value} {l : List (List UInt8)} (h : Xau w base v l) (hb : ∀ g, v.ownBlock = some g → w'.heap[g]? = w.heap[g]?) : Xau w' base v l := by
 unfold Xau at h ⊢
 rcases h with ⟨h1, h2 | ⟨g, cap, cur, hv, hbg, hg, h3⟩⟩
 · exact ⟨h1, .inl h2⟩
 · exact ⟨h1, .inr ⟨g, cap, cur, hv, hbg, (hb g (by rw [hv]; rfl)).trans hg, h3⟩⟩
theorem Xau.alloc {w : World} {base : Nat} {v : Value} {l : List (List UInt8)} (h : Xau w base v l) (o : Obj) : Xau (w.alloc o) base v l := World.ownsRow.alloc h o
theorem Xau.lt {w : World} {base : Nat} {v : Value} {l : List (List UInt8)} (h : Xau w base v l) {g : Nat} (hg : v.ownBlock = some g) : base ≤ g ∧ g < w.heap.size := by
 rcases h with ⟨h1, ⟨rfl, h2⟩ | ⟨g', cap, cur, rfl, hbg, hg', h3⟩⟩
 · cases hg
 · have e : g' = g := by simpa [Value.ownBlock] using hg
   subst e
   exact ⟨hbg, Xab hg'⟩
theorem Xau.below {w w' : World} {base : Nat} {v : Value} {l : List (List UInt8)} (h : Xau w base v l) (hb : Below w.heap.size w w') : Xau w' base v l :=
 h.keep fun g hg => hb.block g (h.lt hg).2
theorem Xau.inn {w : World} {base : Nat} {v : Value} {l : List (List UInt8)} (h : Xau w base v l) (hl : l ≠ []) : Xeo w w.heap.size v l := by
 have hh := h
 rcases h with ⟨h1, ⟨rfl, h2⟩ | ⟨g, cap, cur, rfl, hbg, hg, h3⟩⟩
 · exact absurd (List.eq_nil_of_length_eq_zero h2) hl
 · exact ⟨g, cap, cur, rfl, Xab hg, hg, World.ownsRow.cells (g := g) hh rfl⟩
theorem Xau.form {w : World} {base : Nat} {v : Value} {l : List (List UInt8)} (h : Xau w base v l) : ∃ A c, v = .slice A l.length c := by
 rcases h with ⟨h1, ⟨rfl, h2⟩ | ⟨g, cap, cur, rfl, hbg, hg, h3⟩⟩
 · exact ⟨none, 0, by rw [h2]⟩
 · exact ⟨some ⟨g, 0, none⟩, cap, rfl⟩
theorem strs_len {l : List (List UInt8)} (h : l.length ≤ 4096) : l.length ≤ 100000 := by omega
theorem Xdr {ops : Array Oper} {rest : List Oper} {o : Oper} {a : Act} {w : World} {Q : Exit → Act → World → Prop} (hgd : o.guard = none) (sl x : Operand)
  (ho : o.op = .call { callee := .builtin .append, args := #[sl, x], argTypes := #[53, 53] })
  (base : Nat) (v : Value) (l : List (List UInt8)) (hs : a.eval sl = v) (hown : Xau w base v l) (ad : Addr) (n c : Nat) (t : List (List UInt8)) (hn : n = t.length) (hn0 : 0 < n) (hx : a.eval x = .slice (some ad) n c)
  (hg : ∀ (j : Nat) (u : Value), (stV t)[j]? = some u → w.cell? (ad.add j) = some u) (hb : l.length + t.length ≤ 1000000) (hbase : base ≤ w.heap.size)
  (h : ∀ g cap w', Xau w' base (.slice (some ⟨g, 0, none⟩) (l.length + n) cap) (l ++ t) → w.grownBy w' v.ownBlock → (v.ownBlock = some g ∨ g = w.heap.size) → wpList Tryz.prog ops Q rest (a.put o.dst (.slice (some ⟨g, 0, none⟩) (l.length + n) cap)) w') : wpList Tryz.prog ops Q (o :: rest) a w := by
 obtain ⟨i0, hi, hz0, hz1, hz2⟩ := info_parts Xqn
 refine wpList_append_lies _ hgd sl x 53 ho base 9 i0 (.string ⟨#[]⟩) 1 16 Tryz.underlying53 hi hz0 hz1 hz2 rfl (by decide) v l.length (stV l) hs hown ad n c (stV t) hx (by rw [Xmf, hn, Nat.mul_one]) hg stV_one hn0 (by unfold maxLen; omega) (by omega) hbase w.heap.size rfl fun g' cap w' hown' hgr hat _ => h g' cap w' ?_ hgr hat
 unfold Xau
 rw [List.length_append, stV_app, ← hn]
 exact hown'
structure Xcs (w : World) (base : Nat) (v : Value) (vs : List Value) (xs : List (List (List UInt8))) : Prop where
 own : w.ownsRow base 53 1 v vs.length vs
 len : vs.length = xs.length
 rows : ∀ (k : Nat) (hk : k < vs.length) (hx : k < xs.length), Xeo w w.heap.size vs[k] xs[k]
theorem Xcs.nil (w : World) (base : Nat) : Xcs w base (.slice none 0 0) [] [] := ⟨⟨rfl, .inl ⟨rfl, rfl⟩⟩, rfl, fun k hk => by simp at hk⟩
theorem Xcs.form {w : World} {base : Nat} {v : Value} {vs : List Value} {xs : List (List (List UInt8))} (h : Xcs w base v vs xs) : ∃ A c, v = .slice A xs.length c := by
 rcases h.own with ⟨h1, ⟨rfl, h2⟩ | ⟨g, cap, cur, rfl, hbg, hg, h3⟩⟩
 · exact ⟨none, 0, by rw [← h.len, h2]⟩
 · exact ⟨some ⟨g, 0, none⟩, cap, by rw [← h.len]⟩
theorem Xcs.keep {w w' : World} {base : Nat} {v : Value} {vs : List Value} {xs : List (List (List UInt8))} (h : Xcs w base v vs xs) (hb : Below w.heap.size w w') : Xcs w' base v vs xs := by
 refine ⟨?_, h.len, fun k hk hx => (h.rows k hk hx).below hb (Nat.le_refl _) hb.size⟩
 rcases h.own with ⟨h1, h2 | ⟨g, cap, cur, hv, hbg, hg, h3⟩⟩
 · exact ⟨h1, .inl h2⟩
 · exact ⟨h1, .inr ⟨g, cap, cur, hv, hbg, (hb.block g (Xab hg)).trans hg, h3⟩⟩
theorem Xcs.alloc {w : World} {base : Nat} {v : Value} {vs : List Value} {xs : List (List (List UInt8))} (h : Xcs w base v vs xs) (o : Obj) : Xcs (w.alloc o) base v vs xs := h.keep ((Below.refl _ _).alloc (Nat.le_refl _) o)
theorem Xcs.get {w : World} {base : Nat} {v : Value} {vs : List Value} {xs : List (List (List UInt8))} (h : Xcs w base v vs xs) (k : Nat) (hx : k < xs.length) :
  ∃ g c u, v = .slice (some ⟨g, 0, none⟩) xs.length c ∧ g < w.heap.size ∧ w.cell? ⟨g, k, none⟩ = some u ∧ Xeo w w.heap.size u xs[k] := by
 have hk : k < vs.length := by rw [h.len]; exact hx
 have hh := h.own
 rcases hh with ⟨h1, ⟨rfl, h2⟩ | ⟨g, cap, cur, rfl, hbg, hg, h3⟩⟩
 · omega
 · refine ⟨g, cap, vs[k], by rw [← h.len], Xab hg, ?_, h.rows k hk hx⟩
   have := World.ownsRow.cells (g := g) h.own rfl k vs[k] (List.getElem?_eq_getElem hk)
   rwa [Xco, Nat.zero_add] at this
theorem Xin {ops : Array Oper} {rest : List Oper} {o : Oper} {a : Act} {w : World} {Q : Exit → Act → World → Prop} (hgd : o.guard = none) (sl x : Operand)
  (ho : o.op = .call { callee := .builtin .append, args := #[sl, x], argTypes := #[113, 113] })
  (base : Nat) (v : Value) (vs : List Value) (xs : List (List (List UInt8))) (hs : a.eval sl = v) (hown : Xcs w base v vs xs) (g c : Nat) (u : Value) (t : List (List UInt8)) (hx : a.eval x = .slice (some ⟨g, 0, none⟩) 1 c) (hg : w.cell? ⟨g, 0, none⟩ = some u)
  (ht : Xeo w w.heap.size u t) (hb : xs.length ≤ 100000) (hbase : base ≤ w.heap.size)
  (h : ∀ v' w', Xcs w' base v' (vs ++ [u]) (xs ++ [t]) → Below base w w' → wpList Tryz.prog ops Q rest (a.put o.dst v') w') : wpList Tryz.prog ops Q (o :: rest) a w := by
 obtain ⟨i0, hi, hz0, hz1, hz2⟩ := info_parts Xuz
 have hu1 : u.oneCell' = true := by obtain ⟨_, _, _, rfl, _⟩ := ht; rfl
 refine wpList_append_lies _ hgd sl x 113 ho base 53 i0 (.slice none 0 0) 1 24 Tryz.underlying113 hi hz0 hz1 hz2 rfl (by decide) v vs.length vs hs hown.own ⟨g, 0, none⟩ 1 c [u] hx rfl (fun j u' hu => ?_) (by simpa using hu1) (by omega) (by rw [hown.len]; unfold maxLen; omega) (by rw [hown.len]; omega) hbase w.heap.size rfl fun g' cap w' hown' hgr hat _ => h _ w' ?_ ?_
 · match j, hu with
   | 0, hu =>
     have e : u = u' := by simpa using hu
     rw [Xco, ← e]; exact hg
   | j + 1, hu => simp at hu
 · have hkeep : ∀ (u : Value) (t : List (List UInt8)), Xeo w w.heap.size u t → Xeo w' w'.heap.size u t := by
    intro u t hst
    refine hst.keep (fun k hk => ?_) hgr.size
    obtain ⟨g1, c1, cur1, rfl, hlt, hh, _⟩ := hst
    have e : g1 = k := by simpa [Value.ownBlock] using hk
    subst e
    refine hgr.block _ hlt (fun e => ?_)
    rcases hown.own with ⟨_, ⟨rfl, _⟩ | ⟨g2, cap2, cur2, rfl, _, hg2, _⟩⟩
    · cases e
    · have e2 : g1 = g2 := by simpa [Value.ownBlock] using e
      rw [← e2, hh] at hg2
      simp at hg2
   refine ⟨?_, by simp [hown.len], fun k hk hx => ?_⟩
   · rw [List.length_append]; exact hown'
   · by_cases hlt : k < vs.length
     · have hlx : k < xs.length := by rw [← hown.len]; exact hlt
       rw [List.getElem_append_left hlt, List.getElem_append_left hlx]
       exact hkeep _ _ (hown.rows k hlt hlx)
     · have e : k = vs.length := by simp at hk; omega
       subst e
       have e2 : (xs ++ [t])[vs.length] = t := by simp [hown.len]
       rw [e2, List.getElem_append_right (Nat.le_refl _)]
       simpa using hkeep _ _ ht
 · refine ⟨hgr.os, hgr.tape, hgr.output, hgr.size, fun k hk => hgr.block k (by omega) (fun e => ?_)⟩
   rcases hown.own with ⟨_, ⟨rfl, _⟩ | ⟨g2, cap2, cur2, rfl, hbg, hg2, _⟩⟩
   · cases e
   · have e2 : k = g2 := by simpa [Value.ownBlock] using e
     omega
theorem Xjn : ∀ (es : List Ex) (b : Bool) (d c : Int) (xs : List (List (List UInt8))), Xdt es b d c = some xs → ∀ (j : Nat) (hj : j < es.length) (hx : j < xs.length), ∃ d' c', penE es[j] d' c' = some xs[j]
 | [], b, d, c, xs, h, j, hj, hx => by simp at hj
 | e :: es, b, d, c, xs, h, j, hj, hx => by
   rw [Xdt] at h
   split at h
   · cases h
   · rename_i x h1
     split at h
     · cases h
     · rename_i ys h2
       cases h
       cases j with
       | zero =>
         show ∃ d' c', penE e d' c' = some x
         split at h1
         · exact ⟨_, _, h1⟩
         · exact ⟨_, _, h1⟩
       | succ j => exact Xjn es false d c ys h2 j (by simpa using hj) (by simpa using hx)
theorem Xig {k p n : Int} {s : List UInt8} {es : List Ex} {d c : Int} {T : List (List UInt8)} (h : penE (.mk k p n s es) d c = some T) :
  1 ≤ k ∧ k ≤ 13 ∧ Xcj k n s c = true ∧ es.length = argsN k ∧ ∃ xs, Xdt es (Xbb k) d c = some xs ∧ xs.length = es.length ∧ T = Xbg k n s xs := by
 rw [penE] at h
 split at h
 · rename_i hh
   obtain ⟨h1, h2, h3⟩ := hh
   obtain ⟨k1, k2⟩ := Xng h2
   cases hp : Xdt es (Xbb k) d c with
   | none => rw [hp] at h; cases h
   | some xs =>
     rw [hp] at h
     cases h
     exact ⟨k1, k2, h2, h3, xs, rfl, Xjo _ _ _ _ _ hp, rfl⟩
 · cases h
theorem Xpl {e : Ex} {d c : Int} {T : List (List UInt8)} (h : penE e d c = some T) : T ≠ [] := by
 cases e with
 | mk k p n s es =>
 obtain ⟨k1, k2, h2, h3, xs, hp, hl, rfl⟩ := Xig h
 have := Xkc (n := n) (s := s) k1 k2 (hl.trans h3)
 intro h0
 rw [h0] at this
 have ho : 1 ≤ ownN k := by unfold ownN; split <;> (try split) <;> omega
 simp at this
 omega
theorem Xbt {ops : Array Oper} {rest : List Oper} {o : Oper} {a : Act} {w : World} {Q : Exit → Act → World → Prop} (hgd : o.guard = none) (sl x : Operand)
  (ho : o.op = .call { callee := .builtin .append, args := #[sl, x], argTypes := #[62, 62] })
  (base : Nat) (v : Value) (l : List UInt8) (hs : a.eval sl = v) (hown : Xas w base v l) (g c : Nat) (hx : a.eval x = .slice (some ⟨g, 0, none⟩) 1 c) (b : UInt8) (hg : w.cell? ⟨g, 0, none⟩ = some (.int .u8 (b.toNat : Nat))) (hb : l.length ≤ 100000) (hbase : base ≤ w.heap.size)
  (h : ∀ v' w', Xas w' base v' (l ++ [b]) → Below base w w' → wpList Tryz.prog ops Q rest (a.put o.dst v') w') : wpList Tryz.prog ops Q (o :: rest) a w := by
 obtain ⟨i0, hi, hz0, hz1, hz2⟩ := info_parts Xlw
 refine wpList_append_lies _ hgd sl x 62 ho base 5 i0 (.int .u8 0) 1 1 Tryz.underlying62 hi hz0 hz1 hz2 rfl (by decide) v l.length (byV l) hs hown ⟨g, 0, none⟩ 1 c [.int .u8 (b.toNat : Nat)] hx rfl (fun j u hu => ?_) (by simp [Value.oneCell']) (by omega) (by unfold maxLen; omega) (by omega) hbase w.heap.size rfl fun g' cap w' hown' hgr hat _ => h _ w' ?_ ?_
 · match j, hu with
   | 0, hu =>
     have e : Value.int .u8 (b.toNat : Nat) = u := by simpa using hu
     rw [Xco, ← e]; exact hg
   | j + 1, hu => simp at hu
 · unfold Xas
   rw [List.length_append, Xol]
   exact hown'
 · refine ⟨hgr.os, hgr.tape, hgr.output, hgr.size, fun k hk => hgr.block k (by omega) (fun e => ?_)⟩
   have := hown.blk e.symm
   omega
def revD (u : Nat) : List UInt8 := if h : u < 10 then [UInt8.ofNat (48 + u)] else UInt8.ofNat (48 + u % 10) :: revD (u / 10)
termination_by u
decreasing_by omega
theorem Xii {u : Nat} (h : u < 10) : revD u = [UInt8.ofNat (48 + u)] := by rw [revD, dif_pos h]
theorem Xja {u : Nat} (h : ¬ u < 10) : revD u = UInt8.ofNat (48 + u % 10) :: revD (u / 10) := by rw [revD, dif_neg h]
theorem Xqw (u : Nat) : (revD u).reverse = Lib.decDigits u := by
 induction u using Nat.strongRecOn with
 | _ u ih =>
   by_cases h : u < 10
   · rw [Xii h, Lib.decDigits, dif_pos h]; rfl
   · rw [Xja h, Lib.decDigits, dif_neg h, List.reverse_cons, ih (u / 10) (by omega)]
theorem Xqx (u : Nat) : ∀ (k : Nat), u < 10 ^ k → 0 < k → (revD u).length ≤ k := by
 induction u using Nat.strongRecOn with
 | _ u ih =>
   intro k hk h0
   by_cases h : u < 10
   · rw [Xii h]; exact h0
   · rw [Xja h, List.length_cons]
     match k, h0 with
     | k + 1, _ =>
       rw [Nat.pow_succ] at hk
       have hk2 : 0 < k := by
        rcases Nat.eq_zero_or_pos k with rfl | h2
        · simp at hk; omega
        · exact h2
       have := ih (u / 10) (by omega) k (by omega) hk2
       omega
theorem Xas.empty {w : World} {base : Nat} (h : base ≤ w.heap.size) : Xas (w.alloc (.cells #[] 5)) base (.slice (some ⟨w.heap.size, 0, none⟩) 0 0) [] :=
 ⟨rfl, .inr ⟨w.heap.size, 0, #[], rfl, h, heap_alloc_new w _, Nat.le_refl _, Nat.zero_le _, rfl, rfl⟩⟩
theorem Xma (w : World) (b : UInt8) : (w.alloc (.cells #[.int .u8 (b.toNat : Nat)] 5)).cell? ⟨w.heap.size, 0, none⟩ = some (.int .u8 (b.toNat : Nat)) := by
 rw [cell_of_row _ _ 0 _ _ (0, 0) (heap_alloc_new w _)]; rfl
theorem Xas.at_ {w : World} {base : Nat} {v : Value} {l : List UInt8} (h : Xas w base v l) (hl : l ≠ []) : ∃ g cap, v = .slice (some ⟨g, 0, none⟩) l.length cap ∧ base ≤ g ∧ g < w.heap.size ∧ ∀ (k : Nat) (hk : k < l.length), w.cell? ⟨g, k, none⟩ = some (.int .u8 (l[k].toNat : Nat)) := by
 have hh := h
 rcases h with ⟨h1, ⟨rfl, h2⟩ | ⟨g, cap, cur, rfl, hbg, hg, h3⟩⟩
 · exact absurd (List.eq_nil_of_length_eq_zero h2) hl
 · refine ⟨g, cap, rfl, hbg, Xab hg, fun k hk => ?_⟩
   have := World.ownsRow.cells (g := g) hh rfl k (.int .u8 (l[k].toNat : Nat)) (by simp [byV, hk])
   rwa [Xco, Nat.zero_add] at this
set_option maxHeartbeats 2000000 in
set_option maxRecDepth 100000 in
theorem Xoa (u : Nat) (hu : u < 1000000000000000000) (w : World) :
  Calls Tryz.prog 34 #[.int .i64 u] w fun e w' => e = .returned (.string (Xaa (Lib.itoa u))) ∧ Below w.heap.size w w' := by
 have hit : Lib.itoa u = (revD u).reverse := by
  unfold Lib.itoa
  rw [if_neg (by omega), Xqw]
  simp
 have hlen := Xqx u 18 (by omega) (by omega)
 rw [hit]
 obtain ⟨D, hD⟩ : ∃ D, D = revD u := ⟨_, rfl⟩
 rw [← hD] at hlen ⊢
 obtain ⟨g, hg⟩ : ∃ g, g = w.heap.size := ⟨_, rfl⟩
 have HL := lh hlen
 have HD := lh hD
 have HG := lh hg
 have HOW := lh (Xas.empty (w := w) (base := g) (by omega))
 have HBL := lh ((Below.refl g w).alloc (by omega) (.cells #[] 5))
 clear hit hlen hD hg
 go_enter Tryz.func34, Tryz.ntmps34
 have hpos : decide (0 < u) = true ∨ u = 0 := by
  rcases Nat.eq_zero_or_pos u with h | h
  · exact .inr h
  · exact .inl (by simpa using h)
 have hrev : ∀ q r : Nat, q < 10 → r = q → revD q = [UInt8.ofNat (48 + r)] := fun q r h e => by rw [Xii h, e]
 have HRV := lh hrev
 clear hrev
 rcases hpos with hp | rfl
 · have hneg : ∀ x : Nat, decide ((x : Int) < 0) = false := fun x => decide_eq_false (by omega)
   go_wp2
   go_loopw [3, 4] (fun n d wr => ∃ (q L : Nat) (l : List UInt8) (A : Option Addr) (c : Nat), n = .int .i64 (-(q : Int)) ∧ d = .slice A L c ∧ Hid (L = l.length) ∧ q < 1000000000000000000 ∧ Hid (Xas wr g (.slice A L c) l) ∧ Hid (l ++ revD q = D) ∧ Hid (Below g w wr)) (fun n _ _ => (intOf n).natAbs)
   case atStart => exact ⟨u, 0, [], _, 0, rfl, rfl, lh rfl, hu, HOW, lh (by rw [HD.out]; rfl), HBL⟩
   case round =>
    obtain ⟨wo, rfl⟩ : ∃ wo : World, wo = wr := ⟨_, rfl⟩
    obtain ⟨q, L, l, A, c, rfl, rfl, HLL, hq, HO, HR, HB⟩ := hrel
    obtain ⟨r, hr⟩ : ∃ r, r = q % 10 := ⟨_, rfl⟩
    obtain ⟨p, hp'⟩ : ∃ p, p = q / 10 := ⟨_, rfl⟩
    have e1 : (-(q : Int)).tmod 10 = -(r : Int) := by rw [Int.neg_tmod]; congr 1; rw [hr]; rfl
    have e2 : (-(q : Int)).tdiv 10 = -(p : Int) := by rw [Int.neg_tdiv]; congr 1; rw [hp']; rfl
    have hr10 : r < 10 := by omega
    have hpb : p < 1000000000000000000 := by omega
    obtain ⟨B, hB⟩ : ∃ B, B = UInt8.ofNat (48 + r) := ⟨_, rfl⟩
    have hBn : B.toNat = 48 + r := by rw [hB]; exact Nat.mod_eq_of_lt (by omega)
    have hcell : (wo.alloc (.cells #[.int .u8 (48 + (r : Int))] 5)).cell? ⟨wo.heap.size, 0, none⟩ = some (.int .u8 (B.toNat : Nat)) := by
     rw [cell_of_row _ _ 0 _ _ (0, 0) (heap_alloc_new wo _), hBn]
     show some (Value.int IntKind.u8 (48 + (r : Int))) = some (.int .u8 ((48 + r : Nat) : Int))
     rw [Int.natCast_add]; rfl
    have hgw : g ≤ wo.heap.size := Nat.le_trans (by rw [HG.out]; exact Nat.le_refl _) HB.out.size
    have hL18 : l.length ≤ 18 := by
     have h1 := HL.out
     rw [← HR.out, List.length_append] at h1
     omega
    have hLb : L ≤ 18 := by rw [HLL.out]; exact hL18
    have HC1 := lh hcell
    have HBV := lh hB
    have HRQ := lh hr
    have HPQ := lh hp'
    have HGW := lh hgw
    have HL18 := lh hL18
    clear hcell hB hBn hr hp' hgw hL18
    have hstep : 10 ≤ q → Hid ((l ++ [B]) ++ revD p = D) := fun h => lh (by
     rw [← HR.out, Xja (u := q) (by omega), List.append_assoc, HBV.out, HRQ.out, HPQ.out]; rfl)
    have hlast : p = 0 → Hid (l ++ [B] = D) := fun h => lh (by
     have h2 := HPQ.out
     have h3 := HRQ.out
     rw [← HR.out, HRV.out q r (by omega) (by omega), HBV.out])
    have hwp : IntKind.i64.wrap (-(p : Int)) = -(p : Int) := IntWalk.i64_in _ ⟨by omega, by omega⟩
    by_cases hp0 : p = 0
    · have HLAST := hlast hp0
      subst hp0
      clear hstep hlast hwp
      go_wp2_with (at_builtin; refine Xbt rfl _ _ rfl g (.slice A L c) l rfl (HO.out.alloc _) wo.heap.size 1 rfl B HC1.out (by have := HL18.out; omega) (by have := HGW.out; simp; omega) ?_; intro v2 w2 hown2 hb2; obtain ⟨gd, cd, hvd, hgd0, hgd1, hdc⟩ := hown2.at_ (by simp); rw [List.length_append, List.length_singleton, ← HLL.out] at hvd; subst hvd; have HDC : Hid (∀ (k : Nat) (hk : k < D.length), w2.cell? ⟨gd, k, none⟩ = some (.int .u8 (D[k].toNat : Nat))) := lh (HLAST.out ▸ hdc); have HB2 := lh ((HB.out.alloc HGW.out _).trans hb2); have HGD := lh hgd1; clear hown2 hb2 hdc hgd0 hgd1)
      have HLD : Hid (L + 1 = D.length) := lh (by rw [← HLAST.out, HLL.out]; simp)
      obtain ⟨g2, hg2⟩ : ∃ g2, g2 = w2.heap.size := ⟨_, rfl⟩
      have HG2 := lh hg2
      have HE2 := lh (Xas.empty (w := w2) (base := g2) (by omega))
      have HBE := lh ((Below.refl g2 w2).alloc (by omega) (.cells #[] 5))
      have hgle : g ≤ g2 := by have := HGD.out; have h3 := HB2.out.size; have h4 := HG.out; omega
      have HGL := lh hgle
      clear hg2 hgle
      go_loopw [5, 6] (fun o i wr => ∃ (m M : Nat) (x : Int) (A3 : Option Addr) (c3 : Nat), m ≤ L + 1 ∧ i = .int .i64 x ∧ Hid (x = (m : Int) - 1) ∧ o = .slice A3 M c3 ∧ Hid (M = ((D.drop m).reverse).length) ∧ Hid (Xas wr g2 (.slice A3 M c3) (D.drop m).reverse) ∧ Hid (Below g2 w2 wr)) (fun _ i _ => (intOf i + 1).toNat)
      case atStart => exact ⟨L + 1, 0, _, _, 0, Nat.le_refl _, rfl, lh (by omega), rfl, lh (by rw [HLD.out]; simp), lh (by rw [HLD.out, List.drop_length]; exact HE2.out), HBE⟩
      case round =>
       obtain ⟨wq, rfl⟩ : ∃ wq : World, wq = wr := ⟨_, rfl⟩
       obtain ⟨m, M, x, A3, c3, hm, rfl, HX, rfl, HM, HO3, HB3⟩ := hrel
       rcases Nat.eq_zero_or_pos m with rfl | hm0
       · obtain rfl : x = -1 := by have := HX.out; omega
         have hcv := HO3.out.conv
         rw [List.drop_zero] at hcv
         go_wp2
         go_ret
         exact ⟨rfl, HG.out ▸ HB2.out.trans (HB3.out.mono HGL.out)⟩
       · obtain ⟨k, rfl⟩ : ∃ k, m = k + 1 := ⟨m - 1, by omega⟩
         obtain rfl : x = (k : Int) := by have := HX.out; omega
         have hkD : k < D.length := by have := HLD.out; omega
         have hck := (HB3.out.cell (p := ⟨gd, k, none⟩) (by show gd < g2; have := HGD.out; have h := HG2.out; omega)).trans (HDC.out k hkD)
         obtain ⟨Bk, hBk⟩ : ∃ Bk, Bk = D[k] := ⟨_, rfl⟩
         rw [← hBk] at hck
         have hdk : (D.drop (k + 1)).reverse ++ [Bk] = (D.drop k).reverse := by rw [List.drop_eq_getElem_cons hkD, List.reverse_cons, hBk]
         have hM18 : M ≤ 18 := by have h1 := HM.out; have h2 := HL.out; simp at h1; omega
         have hgq : g2 ≤ wq.heap.size := by have := HB3.out.size; have h := HG2.out; omega
         have hkL : k < L + 1 := by omega
         have HDK := lh hdk
         have HGQ := lh hgq
         clear hdk hBk hgq hm hm0
         go_wp2_with (at_builtin; refine Xbt rfl _ _ rfl g2 (.slice A3 M c3) (D.drop (k + 1)).reverse (by rw [HM.out]; rfl) (HO3.out.alloc _) wq.heap.size 1 rfl Bk (Xma wq Bk) (by have := HL.out; simp; omega) (by have := HGQ.out; simp; omega) ?_; intro v4 w4 hown4 hb4; rw [HDK.out] at hown4; obtain ⟨A4, c4, hv4⟩ := hown4.form; have hM4 : (D.drop k).reverse.length = M + 1 := (by rw [← HDK.out, List.length_append, List.length_singleton, HM.out]); rw [hM4] at hv4; subst hv4; have HM4 := lh hM4.symm; have HO4 := lh hown4; have HB4 := lh ((HB3.out.alloc HGQ.out _).trans hb4); clear hown4 hb4 hM4)
         go_roundw
         case rel => exact ⟨k, M + 1, _, A4, c4, by omega, rfl, lh (by omega), rfl, HM4, HO4, HB4⟩
         case measure => first | (simp [intOf]; done) | (simp [intOf]; omega)
    · have HSTEP := hstep (by have := HPQ.out; omega)
      have qp : (-(p : Int) == 0) = false := by simp; omega
      have qp2 : (p == 0) = false := by simp; omega
      have qp3 : ((p : Int) == 0) = false := by simp; omega
      clear hstep hlast
      go_wp2_with (at_builtin; refine Xbt rfl _ _ rfl g (.slice A L c) l rfl (HO.out.alloc _) wo.heap.size 1 rfl B HC1.out (by have := HL18.out; omega) (by have := HGW.out; simp; omega) ?_; intro v2 w2 hown2 hb2; obtain ⟨A2, c2, hv2⟩ := hown2.form; rw [List.length_append, List.length_singleton, ← HLL.out] at hv2; subst hv2; have HO2 := lh hown2; have HB2 := lh ((HB.out.alloc HGW.out _).trans hb2); clear hown2 hb2)
      go_roundw
      case rel => exact ⟨p, L + 1, l ++ [B], A2, c2, rfl, rfl, lh (by rw [HLL.out]; simp), by have := HPQ.out; omega, HO2, HSTEP, HB2⟩
      case measure => have := HPQ.out; first | (simp [intOf]; done) | (simp [intOf]; omega)
 · have hneg : ∀ x : Nat, decide ((x : Int) < 0) = false := fun x => decide_eq_false (by omega)
   go_wp2
   go_loopw [3, 4] (fun n d wr => ∃ (q L : Nat) (l : List UInt8) (A : Option Addr) (c : Nat), n = .int .i64 (-(q : Int)) ∧ d = .slice A L c ∧ Hid (L = l.length) ∧ Hid (q = 0) ∧ Hid (Xas wr g (.slice A L c) l) ∧ Hid (l ++ revD q = D) ∧ Hid (Below g w wr)) (fun n _ _ => (intOf n).natAbs)
   case atStart => exact ⟨0, 0, [], _, 0, rfl, rfl, lh rfl, lh rfl, HOW, lh (by rw [HD.out]; rfl), HBL⟩
   case round =>
    obtain ⟨wo, rfl⟩ : ∃ wo : World, wo = wr := ⟨_, rfl⟩
    obtain ⟨q, L, l, A, c, rfl, rfl, HLL, HQ0, HO, HR, HB⟩ := hrel
    have hq : q < 1000000000000000000 := by have := HQ0.out; omega
    obtain ⟨r, hr⟩ : ∃ r, r = q % 10 := ⟨_, rfl⟩
    obtain ⟨p, hp'⟩ : ∃ p, p = q / 10 := ⟨_, rfl⟩
    have e1 : (-(q : Int)).tmod 10 = -(r : Int) := by rw [Int.neg_tmod]; congr 1; rw [hr]; rfl
    have e2 : (-(q : Int)).tdiv 10 = -(p : Int) := by rw [Int.neg_tdiv]; congr 1; rw [hp']; rfl
    have hr10 : r < 10 := by omega
    have hpb : p < 1000000000000000000 := by omega
    obtain ⟨B, hB⟩ : ∃ B, B = UInt8.ofNat (48 + r) := ⟨_, rfl⟩
    have hBn : B.toNat = 48 + r := by rw [hB]; exact Nat.mod_eq_of_lt (by omega)
    have hcell : (wo.alloc (.cells #[.int .u8 (48 + (r : Int))] 5)).cell? ⟨wo.heap.size, 0, none⟩ = some (.int .u8 (B.toNat : Nat)) := by
     rw [cell_of_row _ _ 0 _ _ (0, 0) (heap_alloc_new wo _), hBn]
     show some (Value.int IntKind.u8 (48 + (r : Int))) = some (.int .u8 ((48 + r : Nat) : Int))
     rw [Int.natCast_add]; rfl
    have hgw : g ≤ wo.heap.size := Nat.le_trans (by rw [HG.out]; exact Nat.le_refl _) HB.out.size
    have hL18 : l.length ≤ 18 := by
     have h1 := HL.out
     rw [← HR.out, List.length_append] at h1
     omega
    have hLb : L ≤ 18 := by rw [HLL.out]; exact hL18
    have HC1 := lh hcell
    have HBV := lh hB
    have HRQ := lh hr
    have HPQ := lh hp'
    have HGW := lh hgw
    have HL18 := lh hL18
    clear hcell hB hBn hr hp' hgw hL18
    have hstep : 10 ≤ q → Hid ((l ++ [B]) ++ revD p = D) := fun h => lh (by
     rw [← HR.out, Xja (u := q) (by omega), List.append_assoc, HBV.out, HRQ.out, HPQ.out]; rfl)
    have hlast : p = 0 → Hid (l ++ [B] = D) := fun h => lh (by
     have h2 := HPQ.out
     have h3 := HRQ.out
     rw [← HR.out, HRV.out q r (by omega) (by omega), HBV.out])
    have hwp : IntKind.i64.wrap (-(p : Int)) = -(p : Int) := IntWalk.i64_in _ ⟨by omega, by omega⟩
    by_cases hp0 : p = 0
    · have HLAST := hlast hp0
      subst hp0
      clear hstep hlast hwp
      go_wp2_with (at_builtin; refine Xbt rfl _ _ rfl g (.slice A L c) l rfl (HO.out.alloc _) wo.heap.size 1 rfl B HC1.out (by have := HL18.out; omega) (by have := HGW.out; simp; omega) ?_; intro v2 w2 hown2 hb2; obtain ⟨gd, cd, hvd, hgd0, hgd1, hdc⟩ := hown2.at_ (by simp); rw [List.length_append, List.length_singleton, ← HLL.out] at hvd; subst hvd; have HDC : Hid (∀ (k : Nat) (hk : k < D.length), w2.cell? ⟨gd, k, none⟩ = some (.int .u8 (D[k].toNat : Nat))) := lh (HLAST.out ▸ hdc); have HB2 := lh ((HB.out.alloc HGW.out _).trans hb2); have HGD := lh hgd1; clear hown2 hb2 hdc hgd0 hgd1)
      have HLD : Hid (L + 1 = D.length) := lh (by rw [← HLAST.out, HLL.out]; simp)
      obtain ⟨g2, hg2⟩ : ∃ g2, g2 = w2.heap.size := ⟨_, rfl⟩
      have HG2 := lh hg2
      have HE2 := lh (Xas.empty (w := w2) (base := g2) (by omega))
      have HBE := lh ((Below.refl g2 w2).alloc (by omega) (.cells #[] 5))
      have hgle : g ≤ g2 := by have := HGD.out; have h3 := HB2.out.size; have h4 := HG.out; omega
      have HGL := lh hgle
      clear hg2 hgle
      go_loopw [5, 6] (fun o i wr => ∃ (m M : Nat) (x : Int) (A3 : Option Addr) (c3 : Nat), m ≤ L + 1 ∧ i = .int .i64 x ∧ Hid (x = (m : Int) - 1) ∧ o = .slice A3 M c3 ∧ Hid (M = ((D.drop m).reverse).length) ∧ Hid (Xas wr g2 (.slice A3 M c3) (D.drop m).reverse) ∧ Hid (Below g2 w2 wr)) (fun _ i _ => (intOf i + 1).toNat)
      case atStart => exact ⟨L + 1, 0, _, _, 0, Nat.le_refl _, rfl, lh (by omega), rfl, lh (by rw [HLD.out]; simp), lh (by rw [HLD.out, List.drop_length]; exact HE2.out), HBE⟩
      case round =>
       obtain ⟨wq, rfl⟩ : ∃ wq : World, wq = wr := ⟨_, rfl⟩
       obtain ⟨m, M, x, A3, c3, hm, rfl, HX, rfl, HM, HO3, HB3⟩ := hrel
       rcases Nat.eq_zero_or_pos m with rfl | hm0
       · obtain rfl : x = -1 := by have := HX.out; omega
         have hcv := HO3.out.conv
         rw [List.drop_zero] at hcv
         go_wp2
         go_ret
         exact ⟨rfl, HG.out ▸ HB2.out.trans (HB3.out.mono HGL.out)⟩
       · obtain ⟨k, rfl⟩ : ∃ k, m = k + 1 := ⟨m - 1, by omega⟩
         obtain rfl : x = (k : Int) := by have := HX.out; omega
         have hkD : k < D.length := by have := HLD.out; omega
         have hck := (HB3.out.cell (p := ⟨gd, k, none⟩) (by show gd < g2; have := HGD.out; have h := HG2.out; omega)).trans (HDC.out k hkD)
         obtain ⟨Bk, hBk⟩ : ∃ Bk, Bk = D[k] := ⟨_, rfl⟩
         rw [← hBk] at hck
         have hdk : (D.drop (k + 1)).reverse ++ [Bk] = (D.drop k).reverse := by rw [List.drop_eq_getElem_cons hkD, List.reverse_cons, hBk]
         have hM18 : M ≤ 18 := by have h1 := HM.out; have h2 := HL.out; simp at h1; omega
         have hgq : g2 ≤ wq.heap.size := by have := HB3.out.size; have h := HG2.out; omega
         have hkL : k < L + 1 := by omega
         have HDK := lh hdk
         have HGQ := lh hgq
         clear hdk hBk hgq hm hm0
         go_wp2_with (at_builtin; refine Xbt rfl _ _ rfl g2 (.slice A3 M c3) (D.drop (k + 1)).reverse (by rw [HM.out]; rfl) (HO3.out.alloc _) wq.heap.size 1 rfl Bk (Xma wq Bk) (by have := HL.out; simp; omega) (by have := HGQ.out; simp; omega) ?_; intro v4 w4 hown4 hb4; rw [HDK.out] at hown4; obtain ⟨A4, c4, hv4⟩ := hown4.form; have hM4 : (D.drop k).reverse.length = M + 1 := (by rw [← HDK.out, List.length_append, List.length_singleton, HM.out]); rw [hM4] at hv4; subst hv4; have HM4 := lh hM4.symm; have HO4 := lh hown4; have HB4 := lh ((HB3.out.alloc HGQ.out _).trans hb4); clear hown4 hb4 hM4)
         go_roundw
         case rel => exact ⟨k, M + 1, _, A4, c4, by omega, rfl, lh (by omega), rfl, HM4, HO4, HB4⟩
         case measure => first | (simp [intOf]; done) | (simp [intOf]; omega)
    · exact absurd (by have := HPQ.out; have := HQ0.out; omega) hp0
theorem Xfs {P : Program} {ops : Array Oper} {rest : List Oper} {o : Oper} {a : Act} {w : World} {Q : Exit → Act → World → Prop} (hgd : o.guard = none) (T : TypeId) (parts : Array (Nat × Operand))
  (ho : o.op = .build T parts) (vs : Array (Nat × Value)) (hv : (parts.map fun (i, x) => (i, a.eval x)) = vs) (cells : Array Value) (hb : P.built T vs.toList = some cells)
  (h : wpList P ops Q rest (a.put o.dst (.agg cells)) w) : wpList P ops Q (o :: rest) a w := by
 refine wpList_plain hgd fun K hK => ?_
 unfold Oper.wp execOp
 rw [ho]
 simp only [Sem.run_bind, Sem.run_pure, hv, run_build w T vs cells hb, Result.andThen_ok]
 exact hK _ _ h
theorem Xfq {P : Program} {ops : Array Oper} {rest : List Oper} {o : Oper} {a : Act} {w : World} {Q : Exit → Act → World → Prop} (hgd : o.guard = none) (T : TypeId)
  (ho : o.op = .alloc T) (z : Value) (n : Nat) (hz : (P.info? T).map (fun i => (i.zero, i.size)) = some (some z, n)) (cells : Array Value) (hc : z.cells = cells)
  (h : wpList P ops Q rest (a.put o.dst (.pointer (some ⟨w.heap.size, 0, none⟩))) (w.alloc (.cells cells T))) : wpList P ops Q (o :: rest) a w := by
 refine wpList_plain hgd fun K hK => ?_
 unfold Oper.wp execOp
 rw [ho]
 simp only [Sem.run_bind, Sem.run_pure, Instr.alloc, (zero_of_info hz).1, Result.andThen_ok]
 subst hc
 exact hK _ _ h
theorem Xft {P : Program} {ops : Array Oper} {rest : List Oper} {o : Oper} {a : Act} {w : World} {Q : Exit → Act → World → Prop} (hgd : o.guard = none) (T : TypeId) (p x : Operand)
  (ho : o.op = .store T p x) (hp : a.eval p = .pointer (some ⟨w.heap.size, 0, none⟩)) (c c' : Array Value) (hx : a.eval x = .agg c') (hi : (P.info? T).map (·.size) = some c'.size) (hs : c.size = c'.size) (h1 : c'.all (·.oneCell') = true)
  (h : wpList P ops Q rest (a.put o.dst undef) (w.alloc (.cells c' T))) : wpList P ops Q (o :: rest) a (w.alloc (.cells c T)) := by
 refine wpList_plain hgd fun K hK => ?_
 unfold Oper.wp execOp
 rw [ho]
 simp only [Sem.run_bind, Sem.run_pure, hp, hx, run_storeAt_new w T c c' hi hs h1, Result.andThen_ok]
 exact hK _ _ h
end Go.Proofs.YtodociiaobjfgaaGreatDoor
