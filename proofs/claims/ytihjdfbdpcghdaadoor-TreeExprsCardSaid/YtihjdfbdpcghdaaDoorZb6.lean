/- Vj -/
import Derived.Test.YtihjdfbdpcghdaaDoorZa6
import Derived.IntWalk
set_option linter.unusedVariables false
namespace Go.Proofs.YtihjdfbdpcghdaaDoor
open Go.RowKit
def argC (es : List Ex) (d : Int) (ts : List (List UInt8)) : Ts := match es with
  | [] => none
  | a :: _ => cat (penE a (d + 1) 0) (some ts)
def objC (es : List Ex) (d ch : Int) (ts : List (List UInt8)) : Ts := if ch < 8 then (match es with
  | [] => none
  | a :: _ => cat (penE a d (ch + 1)) (some ts)) else none
theorem need_yes {p : Prop} [Decidable p] (h : p) (c : Ts) : need p c = c := if_pos h
theorem need_no {p : Prop} [Decidable p] (h : ¬ p) (c : Ts) : need p c = none := if_neg h
theorem objC_no {ch : Int} (h : ¬ ch < 8) (es : List Ex) (d : Int) (ts : List (List UInt8)) : objC es d ch ts = none := if_neg h
section
variable (p n : Int) (s : List UInt8) (args : List Ex) (d ch : Int)
theorem penE_deep (k : Int) (h : ¬ d ≤ 24) : penE (.mk k p n s args) d ch = none := by
  rw [penE, if_neg (fun e => h e.1)]
theorem penE_1 (hd : d ≤ 24) : penE (.mk 1 p n s args) d ch = cat (need (0 ≤ n ∧ n ≤ 999999999999999999) (some [])) (cat (some [Lib.itoa n]) (need (s = [] ∧ args.length = 0) (some []))) := by
  rw [penE]
  by_cases h1 : 0 ≤ n ∧ n ≤ 999999999999999999
  · by_cases h2 : s = [] ∧ args.length = 0
    · obtain rfl := List.eq_nil_of_length_eq_zero h2.2
      rw [need_yes h1, need_yes h2, if_pos ⟨hd, by simp [headB, h1, h2], rfl⟩]
      simp [penAs, shapeE, cat]
    · rw [need_no h2, cat_none_r, cat_none_r, if_neg]
      rintro ⟨_, h3, h4⟩
      exact h2 ⟨by simp [headB] at h3; exact h3.2.2, h4⟩
  · rw [need_no h1, cat_none_l, if_neg]
    rintro ⟨_, h3, _⟩
    exact h1 (by simp [headB] at h3; exact ⟨h3.1, h3.2.1⟩)
theorem penE_2 (hd : d ≤ 24) : penE (.mk 2 p n s args) d ch = cat (need (n = 0 ∨ n = 1) (some [])) (cat (some [if n = 1 then [116, 114, 117, 101] else [102, 97, 108, 115, 101]]) (need (s = [] ∧ args.length = 0) (some []))) := by
  rw [penE]
  by_cases h1 : n = 0 ∨ n = 1
  · by_cases h2 : s = [] ∧ args.length = 0
    · obtain rfl := List.eq_nil_of_length_eq_zero h2.2
      rw [need_yes h1, need_yes h2, if_pos ⟨hd, by simp [headB, h1, h2], rfl⟩]
      rcases h1 with h1 | h1 <;> subst h1 <;> simp [penAs, shapeE, cat]
    · rw [need_no h2, cat_none_r, cat_none_r, if_neg]
      rintro ⟨_, h3, h4⟩
      exact h2 ⟨by simp [headB] at h3; exact h3.2, h4⟩
  · rw [need_no h1, cat_none_l, if_neg]
    rintro ⟨_, h3, _⟩
    exact h1 (by simp [headB] at h3; exact h3.1)
theorem penE_3 (hd : d ≤ 24) : penE (.mk 3 p n s args) d ch = cat (some [[110, 105, 108]]) (need (n = 0 ∧ s = [] ∧ args.length = 0) (some [])) := by
  rw [penE]
  by_cases h2 : n = 0 ∧ s = [] ∧ args.length = 0
  · obtain rfl := List.eq_nil_of_length_eq_zero h2.2.2
    rw [need_yes h2, if_pos ⟨hd, by simp [headB, h2], rfl⟩]
    simp [penAs, shapeE, cat]
  · rw [need_no h2, cat_none_r, if_neg]
    rintro ⟨_, h3, h4⟩
    exact h2 (by simp [headB] at h3; exact ⟨h3.1, h3.2, h4⟩)
theorem penE_name (k : Int) (hk : k = 4 ∨ k = 11 ∨ k = 13) (hd : d ≤ 24) : penE (.mk k p n s args) d ch = cat (need (nameB s = true) (some [])) (cat (some (if k = 4 then [s] else if k = 11 then [[110, 101, 119], s] else [[114, 101, 108, 101, 97, 115, 101], s])) (need (n = 0 ∧ args.length = 0) (some []))) := by
  rw [penE]
  by_cases h1 : nameB s = true
  · by_cases h2 : n = 0 ∧ args.length = 0
    · obtain rfl := List.eq_nil_of_length_eq_zero h2.2
      rw [need_yes h1, need_yes h2]
      rcases hk with h | h | h <;> subst h <;> (rw [if_pos ⟨hd, by simp [headB, h1, h2], rfl⟩]; simp [penAs, shapeE, cat])
    · rw [need_no h2, cat_none_r, cat_none_r, if_neg]
      rintro ⟨_, h3, h4⟩
      rcases hk with h | h | h <;> subst h <;> exact h2 ⟨by simp [headB] at h3; exact h3.1, h4⟩
  · rw [need_no h1, cat_none_l, if_neg]
    rintro ⟨_, h3, _⟩
    rcases hk with h | h | h <;> subst h <;> exact h1 (by simp [headB] at h3; exact h3.2)
theorem penE_5 (hd : d ≤ 24) : penE (.mk 5 p n s args) d ch = cat (need (nameB s = true) (some [])) (cat (objC args d ch [[46], s]) (need (n = 0 ∧ args.tail.length = 0) (some []))) := by
  rw [penE]
  by_cases h1 : nameB s = true
  · by_cases hc : ch < 8
    · by_cases hn : n = 0
      · match args with
        | [] => simp [argsN, objC, hc, cat_none_l, cat_none_r]
        | [a] =>
          rw [need_yes h1, need_yes ⟨hn, rfl⟩, if_pos ⟨hd, by simp [headB, h1, hc, hn], rfl⟩]
          simp only [objC, if_pos hc, penAs, show behindB 5 = true from rfl, if_true]
          cases penE a d (ch + 1) with
          | none => rfl
          | some x => simp [cat, shapeE]
        | a :: b :: r =>
          rw [need_no (p := n = 0 ∧ (a :: b :: r).tail.length = 0) (by simp), cat_none_r, cat_none_r, if_neg]
          rintro ⟨_, _, h4⟩
          simp [argsN] at h4
      · rw [need_no (p := n = 0 ∧ args.tail.length = 0) (fun h => hn h.1), cat_none_r, cat_none_r, if_neg]
        rintro ⟨_, h3, _⟩
        exact hn (by simp [headB] at h3; exact h3.1)
    · rw [objC_no hc, cat_none_l, cat_none_r, if_neg]
      rintro ⟨_, h3, _⟩
      exact hc (by simp [headB] at h3; exact h3.2.2)
  · rw [need_no h1, cat_none_l, if_neg]
    rintro ⟨_, h3, _⟩
    exact h1 (by simp [headB] at h3; exact h3.2.1)
theorem penE_6 (hd : d ≤ 24) : penE (.mk 6 p n s args) d ch = cat (objC args d ch [[91]]) (cat (argC args.tail d [[93]]) (need (n = 0 ∧ s = [] ∧ args.tail.tail.length = 0) (some []))) := by
  rw [penE]
  by_cases hc : ch < 8
  · by_cases hn : n = 0 ∧ s = []
    · match args with
      | [] => simp [argsN, objC, hc, cat_none_l]
      | [a] => simp [argsN, argC, cat_none_l, cat_none_r]
      | [a, b] =>
        rw [need_yes ⟨hn.1, hn.2, rfl⟩, if_pos ⟨hd, by simp [headB, hc, hn], rfl⟩]
        simp only [objC, if_pos hc, argC, List.tail_cons, penAs, show behindB 6 = true from rfl, if_true, Bool.false_eq_true, if_false]
        cases penE a d (ch + 1) with
        | none => rfl
        | some x =>
          cases penE b (d + 1) 0 with
          | none => rfl
          | some y => simp [cat, shapeE]
      | a :: b :: c :: r =>
        rw [need_no (p := n = 0 ∧ s = [] ∧ (a :: b :: c :: r).tail.tail.length = 0) (by simp), cat_none_r, cat_none_r, if_neg]
        rintro ⟨_, _, h4⟩
        simp [argsN] at h4
    · rw [need_no (p := n = 0 ∧ s = [] ∧ args.tail.tail.length = 0) (fun h => hn ⟨h.1, h.2.1⟩), cat_none_r, cat_none_r, if_neg]
      rintro ⟨_, h3, _⟩
      exact hn (by simp [headB] at h3; exact ⟨h3.1, h3.2.1⟩)
  · rw [objC_no hc, cat_none_l, if_neg]
    rintro ⟨_, h3, _⟩
    exact hc (by simp [headB] at h3; exact h3.2.2)
theorem penE_7 (hd : d ≤ 24) : penE (.mk 7 p n s args) d ch = cat (objC args d ch [[91]]) (cat (argC args.tail d [[58]]) (cat (argC args.tail.tail d [[93]]) (need (n = 0 ∧ s = [] ∧ args.tail.tail.tail.length = 0) (some [])))) := by
  rw [penE]
  by_cases hc : ch < 8
  · by_cases hn : n = 0 ∧ s = []
    · match args with
      | [] => simp [argsN, objC, hc, cat_none_l]
      | [a] => simp [argsN, argC, cat_none_l, cat_none_r]
      | [a, b] => simp [argsN, argC, cat_none_l, cat_none_r]
      | [a, b, c] =>
        rw [need_yes ⟨hn.1, hn.2, rfl⟩, if_pos ⟨hd, by simp [headB, hc, hn], rfl⟩]
        simp only [objC, if_pos hc, argC, List.tail_cons, penAs, show behindB 7 = true from rfl, if_true, Bool.false_eq_true, if_false]
        cases penE a d (ch + 1) with
        | none => rfl
        | some x =>
          cases penE b (d + 1) 0 with
          | none => rfl
          | some y =>
            cases penE c (d + 1) 0 with
            | none => rfl
            | some z => simp [cat, shapeE]
      | a :: b :: c :: e :: r =>
        rw [need_no (p := n = 0 ∧ s = [] ∧ (a :: b :: c :: e :: r).tail.tail.tail.length = 0) (by simp), cat_none_r, cat_none_r, cat_none_r, if_neg]
        rintro ⟨_, _, h4⟩
        simp [argsN] at h4
    · rw [need_no (p := n = 0 ∧ s = [] ∧ args.tail.tail.tail.length = 0) (fun h => hn ⟨h.1, h.2.1⟩), cat_none_r, cat_none_r, cat_none_r, if_neg]
      rintro ⟨_, h3, _⟩
      exact hn (by simp [headB] at h3; exact ⟨h3.1, h3.2.1⟩)
  · rw [objC_no hc, cat_none_l, if_neg]
    rintro ⟨_, h3, _⟩
    exact hc (by simp [headB] at h3; exact h3.2.2)
theorem penE_call (k : Int) (hk : k = 8 ∨ k = 12) (hd : d ≤ 24) : penE (.mk k p n s args) d ch = cat (some (if k = 8 then [[108, 101, 110], [40]] else [[109, 97, 107, 101], [40]])) (cat (argC args d [[41]]) (need (n = 0 ∧ s = [] ∧ args.tail.length = 0) (some []))) := by
  rw [penE]
  by_cases hn : n = 0 ∧ s = []
  · match args with
    | [] => rcases hk with h | h <;> subst h <;> simp [argsN, argC, cat_none_l, cat_none_r]
    | [a] =>
      rw [need_yes ⟨hn.1, hn.2, rfl⟩]
      rcases hk with h | h <;> subst h <;>
      · rw [if_pos ⟨hd, by simp [headB, hn], rfl⟩]
        simp only [argC, penAs, show behindB 8 = false from rfl, show behindB 12 = false from rfl, Bool.false_eq_true, if_false]
        cases penE a (d + 1) 0 with
        | none => rfl
        | some x => simp [cat, shapeE]
    | a :: b :: r =>
      rw [need_no (p := n = 0 ∧ s = [] ∧ (a :: b :: r).tail.length = 0) (by simp), cat_none_r, cat_none_r, if_neg]
      rintro ⟨_, _, h4⟩
      rcases hk with h | h <;> subst h <;> simp [argsN] at h4
  · rw [need_no (p := n = 0 ∧ s = [] ∧ args.tail.length = 0) (fun h => hn ⟨h.1, h.2.1⟩), cat_none_r, cat_none_r, if_neg]
    rintro ⟨_, h3, _⟩
    rcases hk with h | h <;> subst h <;> exact hn (by simp [headB] at h3; exact h3)
theorem penE_9 (hd : d ≤ 24) : penE (.mk 9 p n s args) d ch = cat (need (s = [45] ∨ s = [33]) (some [])) (cat (some [[40], s]) (cat (argC args d [[41]]) (need (n = 0 ∧ args.tail.length = 0) (some [])))) := by
  rw [penE]
  by_cases h1 : s = [45] ∨ s = [33]
  · by_cases hn : n = 0
    · match args with
      | [] => simp [argsN, argC, cat_none_l, cat_none_r]
      | [a] =>
        rw [need_yes h1, need_yes ⟨hn, rfl⟩, if_pos ⟨hd, by simp [headB, h1, hn], rfl⟩]
        simp only [argC, penAs, show behindB 9 = false from rfl, Bool.false_eq_true, if_false]
        cases penE a (d + 1) 0 with
        | none => rfl
        | some x => simp [cat, shapeE]
      | a :: b :: r =>
        rw [need_no (p := n = 0 ∧ (a :: b :: r).tail.length = 0) (by simp), cat_none_r, cat_none_r, cat_none_r, if_neg]
        rintro ⟨_, _, h4⟩
        simp [argsN] at h4
    · rw [need_no (p := n = 0 ∧ args.tail.length = 0) (fun h => hn h.1), cat_none_r, cat_none_r, cat_none_r, if_neg]
      rintro ⟨_, h3, _⟩
      exact hn (by simp [headB] at h3; exact h3.1)
  · rw [need_no h1, cat_none_l, if_neg]
    rintro ⟨_, h3, _⟩
    exact h1 (by simp [headB] at h3; exact h3.2)
theorem penE_10 (hd : d ≤ 24) : penE (.mk 10 p n s args) d ch = cat (some [[40]]) (cat (need (s ∈ opsL) (some [])) (cat (argC args d [s]) (cat (argC args.tail d [[41]]) (need (n = 0 ∧ args.tail.tail.length = 0) (some []))))) := by
  rw [penE]
  by_cases h1 : s ∈ opsL
  · by_cases hn : n = 0
    · match args with
      | [] => simp [argsN, argC, cat_none_l, cat_none_r]
      | [a] => simp [argsN, argC, cat_none_l, cat_none_r]
      | [a, b] =>
        rw [need_yes h1, need_yes ⟨hn, rfl⟩, if_pos ⟨hd, by simp [headB, h1, hn], rfl⟩]
        simp only [argC, List.tail_cons, penAs, show behindB 10 = false from rfl, Bool.false_eq_true, if_false]
        cases penE a (d + 1) 0 with
        | none => rfl
        | some x =>
          cases penE b (d + 1) 0 with
          | none => rfl
          | some y => simp [cat, shapeE]
      | a :: b :: c :: r =>
        rw [need_no (p := n = 0 ∧ (a :: b :: c :: r).tail.tail.length = 0) (by simp), cat_none_r, cat_none_r, cat_none_r, cat_none_r, if_neg]
        rintro ⟨_, _, h4⟩
        simp [argsN] at h4
    · rw [need_no (p := n = 0 ∧ args.tail.tail.length = 0) (fun h => hn h.1), cat_none_r, cat_none_r, cat_none_r, cat_none_r, if_neg]
      rintro ⟨_, h3, _⟩
      exact hn (by simp [headB] at h3; exact h3.1)
  · rw [need_no h1, cat_none_l, cat_none_r, if_neg]
    rintro ⟨_, h3, _⟩
    exact h1 (by simp [headB] at h3; exact h3.2)
theorem penE_8 (hd : d ≤ 24) : penE (.mk 8 p n s args) d ch = cat (some [[108, 101, 110], [40]]) (cat (argC args d [[41]]) (need (n = 0 ∧ s = [] ∧ args.tail.length = 0) (some []))) := penE_call p n s args d ch 8 (.inl rfl) hd
theorem penE_12 (hd : d ≤ 24) : penE (.mk 12 p n s args) d ch = cat (some [[109, 97, 107, 101], [40]]) (cat (argC args d [[41]]) (need (n = 0 ∧ s = [] ∧ args.tail.length = 0) (some []))) := penE_call p n s args d ch 12 (.inr rfl) hd
theorem penE_4 (hd : d ≤ 24) : penE (.mk 4 p n s args) d ch = cat (need (nameB s = true) (some [])) (cat (some [s]) (need (n = 0 ∧ args.length = 0) (some []))) := penE_name p n s args d ch 4 (.inl rfl) hd
theorem penE_11 (hd : d ≤ 24) : penE (.mk 11 p n s args) d ch = cat (need (nameB s = true) (some [])) (cat (some [[110, 101, 119], s]) (need (n = 0 ∧ args.length = 0) (some []))) := penE_name p n s args d ch 11 (.inr (.inl rfl)) hd
theorem penE_13 (hd : d ≤ 24) : penE (.mk 13 p n s args) d ch = cat (need (nameB s = true) (some [])) (cat (some [[114, 101, 108, 101, 97, 115, 101], s]) (need (n = 0 ∧ args.length = 0) (some []))) := penE_name p n s args d ch 13 (.inr (.inr rfl)) hd
theorem need_cat_yes {q : Prop} [Decidable q] (h : q) (c : Ts) : cat (need q (some [])) c = c := by rw [need_yes h, cat_nil_l]
theorem need_cat_no {q : Prop} [Decidable q] (h : ¬ q) (c : Ts) : cat (need q (some [])) c = none := by rw [need_no h, cat_none_l]
theorem penE_else (k : Int) (hk : k < 1 ∨ 13 < k) : penE (.mk k p n s args) d ch = none := by
  rw [penE, if_neg]
  rintro ⟨_, h3, _⟩
  unfold headB at h3
  rw [if_neg (show ¬ k = 1 by omega), if_neg (show ¬ k = 2 by omega), if_neg (show ¬ k = 3 by omega), if_neg (show ¬ k = 4 by omega), if_neg (show ¬ k = 5 by omega), if_neg (show ¬ k = 6 by omega), if_neg (show ¬ k = 7 by omega), if_neg (show ¬ k = 8 by omega), if_neg (show ¬ k = 9 by omega), if_neg (show ¬ k = 10 by omega), if_neg (show ¬ k = 11 by omega), if_neg (show ¬ k = 12 by omega), if_neg (show ¬ k = 13 by omega)] at h3
  cases h3
end
end Go.Proofs.YtihjdfbdpcghdaaDoor
