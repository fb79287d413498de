/- Ta Tb Da -/
import Derived.Test.YtbckeljbpknbdaaGreatDoorYa0
section
namespace Go.Proofs.YtbckeljbpknbdaaGreatDoor
theorem take_run (p : UInt8 → Bool) (l : List UInt8) : ∃ t r, l = t ++ r ∧ t.length = runOf p l ∧ (∀ c ∈ t, p c = true) ∧ ∀ c, r.head? = some c → p c = false := by
 induction l with
 | nil => exact ⟨[], [], rfl, rfl, by simp, by simp⟩
 | cons c l ih =>
   by_cases hc : p c = true
   · obtain ⟨t, r, h1, h2, h3, h4⟩ := ih
     refine ⟨c :: t, r, by rw [h1]; rfl, ?_, ?_, h4⟩
     · unfold runOf at h2 ⊢
       rw [List.takeWhile_cons, if_pos hc, List.length_cons, List.length_cons, h2]
     · intro d hd
       rcases List.mem_cons.1 hd with e | e
       · rw [e]; exact hc
       · exact h3 d e
   · refine ⟨[], c :: l, rfl, ?_, by simp, ?_⟩
     · unfold runOf
       rw [List.takeWhile_cons, if_neg hc]
     · intro d hd
       have e : c = d := by simpa using hd
       rw [← e]; simpa using hc
theorem run_app {p : UInt8 → Bool} {t r : List UInt8} (h : ∀ c ∈ t, p c = true) (hs : ∀ c, r.head? = some c → p c = false) : runOf p (t ++ r) = t.length := by
 unfold runOf
 rw [List.takeWhile_append_of_pos h]
 cases r with
 | nil => simp
 | cons c r =>
   have hc : ¬ p c = true := by simp [hs c rfl]
   rw [List.takeWhile_cons, if_neg hc]
   simp
def Shape (k : Nat) (t : List UInt8) (h : Option UInt8) : Prop :=
 (k = (if isWord t then 4 else 1) ∧ (∃ c u, t = c :: u ∧ small c = true) ∧ (∀ c ∈ t, tailB c = true) ∧ ∀ c, h = some c → tailB c = false) ∨
 (k = 2 ∧ t ≠ [] ∧ (∀ c ∈ t, digit c = true) ∧ ∀ c, h = some c → digit c = false) ∨
 (k = 3 ∧ (t = [60, 61] ∨ t = [61, 61] ∨ t = [33, 61])) ∨
 (k = 3 ∧ ∃ c, t = [c] ∧ signsL.contains c = true ∧ (h = some 61 → c ≠ 60 ∧ c ≠ 61 ∧ c ≠ 33))
theorem fName {l : List UInt8} (h : 0 < nameLen l) : firstOf l = (if isWord (l.take (nameLen l)) then 4 else 1, nameLen l) := by
 unfold firstOf; rw [if_pos h]
theorem fDigit {l : List UInt8} (h : nameLen l = 0) (h1 : 0 < runOf digit l) : firstOf l = (2, runOf digit l) := by
 unfold firstOf; rw [if_neg (by omega), if_pos h1]
theorem fSign {l : List UInt8} (h : nameLen l = 0) (h1 : runOf digit l = 0) (h2 : 0 < signLen l) : firstOf l = (3, signLen l) := by
 unfold firstOf; rw [if_neg (by omega), if_neg (by omega), if_pos h2]
theorem fNone {l : List UInt8} (h : nameLen l = 0) (h1 : runOf digit l = 0) (h2 : signLen l = 0) : firstOf l = (0, 0) := by
 unfold firstOf; rw [if_neg (by omega), if_neg (by omega), if_neg (by omega)]
theorem signs_plain : ∀ c ∈ signsL, small c = false ∧ digit c = false ∧ 32 < c.toNat := by decide
theorem sign_plain {c : UInt8} (h : signsL.contains c = true) : small c = false ∧ digit c = false ∧ 32 < c.toNat := signs_plain c (List.contains_iff_mem.1 h)
theorem digit_small {c : UInt8} (h : digit c = true) : small c = false := by
 unfold digit at h; unfold small
 simp only [Bool.and_eq_true, decide_eq_true_eq] at h
 rw [Bool.eq_false_iff]
 simp only [ne_eq, Bool.and_eq_true, decide_eq_true_eq]
 omega
theorem nameLen_no {c : UInt8} {r : List UInt8} (h : small c = false) : nameLen (c :: r) = 0 := by rw [nameLen_cons, if_neg (by simp [h])]
theorem runD_no {c : UInt8} {r : List UInt8} (h : digit c = false) : runOf digit (c :: r) = 0 := by
 unfold runOf; rw [List.takeWhile_cons, if_neg (by simp [h])]; rfl
theorem signLen_cons' (c : UInt8) (r : List UInt8) : signLen (c :: r) = if twoB (c :: r) then 2 else if signsL.contains c then 1 else 0 := rfl
theorem two_cons (c : UInt8) (r : List UInt8) : twoB (c :: r) = true ↔ r.head? = some 61 ∧ (c = 60 ∨ c = 61 ∨ c = 33) := by
 unfold twoB
 cases r with
 | nil => simp [List.isPrefixOf]
 | cons d r =>
   simp only [List.isPrefixOf, Bool.and_true, Bool.or_eq_true, Bool.and_eq_true, beq_iff_eq, List.head?_cons, Option.some.injEq]
   constructor
   · rintro ((⟨h1, h2⟩ | ⟨h1, h2⟩) | ⟨h1, h2⟩)
     · exact ⟨h2.symm, .inl h1.symm⟩
     · exact ⟨h2.symm, .inr (.inl h1.symm)⟩
     · exact ⟨h2.symm, .inr (.inr h1.symm)⟩
   · rintro ⟨h2, h1 | h1 | h1⟩
     · exact .inl (.inl ⟨h1.symm, h2.symm⟩)
     · exact .inl (.inr ⟨h1.symm, h2.symm⟩)
     · exact .inr ⟨h1.symm, h2.symm⟩
theorem shape_first {k : Nat} {t r : List UInt8} (h : Shape k t r.head?) : firstOf (t ++ r) = (k, t.length) := by
 rcases h with ⟨hk, ⟨c, u, hc, hs⟩, ha, hst⟩ | ⟨hk, hne, ha, hst⟩ | ⟨hk, ht⟩ | ⟨hk, c, ht, hc, hs⟩
 · have hn : nameLen (t ++ r) = t.length := by
    rw [← run_app ha hst, hc]
    show nameLen (c :: (u ++ r)) = _
    rw [nameLen_cons, if_pos hs]
    rfl
   have h0 : 0 < nameLen (t ++ r) := by rw [hn, hc]; simp
   rw [fName h0, hn, List.take_left, hk]
 · have hd : runOf digit (t ++ r) = t.length := run_app ha hst
   obtain ⟨c, u, rfl⟩ := List.exists_cons_of_ne_nil hne
   have h1 := digit_small (ha c (by simp))
   have hn0 : nameLen (c :: u ++ r) = 0 := nameLen_no (r := u ++ r) h1
   have hr0 : 0 < runOf digit (c :: u ++ r) := by rw [hd]; simp
   rw [fDigit hn0 hr0, hd, hk]
 · rcases ht with rfl | rfl | rfl
   all_goals
    rw [hk]
    show firstOf (_ :: 61 :: r) = (3, 2)
    rw [fSign (nameLen_no (by decide)) (runD_no (by decide)) (by rw [signLen_cons', if_pos ((two_cons _ _).2 ⟨rfl, by decide⟩)]; omega), signLen_cons', if_pos ((two_cons _ _).2 ⟨rfl, by decide⟩)]
 · subst ht
   obtain ⟨h1, h2, _⟩ := sign_plain hc
   have ht : ¬ twoB (c :: r) = true := by
    rw [two_cons]
    rintro ⟨h3, h4⟩
    obtain ⟨a, b, d⟩ := hs h3
    rcases h4 with e | e | e
    · exact a e
    · exact b e
    · exact d e
   have hl : signLen (c :: r) = 1 := by rw [signLen_cons', if_neg ht, if_pos hc]
   show firstOf (c :: r) = (k, 1)
   rw [fSign (nameLen_no h1) (runD_no h2) (by omega), hl, hk]
theorem first_shape {l : List UInt8} {k z : Nat} (h : firstOf l = (k, z)) (hz : z ≠ 0) : ∃ t r, l = t ++ r ∧ t.length = z ∧ Shape k t r.head? := by
 by_cases hn : 0 < nameLen l
 · rw [fName hn] at h
   cases l with
   | nil => simp [nameLen] at hn
   | cons c l =>
     by_cases hc : small c = true
     · rw [nameLen_cons, if_pos hc] at h
       obtain ⟨t, r, h1, h2, h3, h4⟩ := take_run tailB (c :: l)
       simp only [Prod.mk.injEq] at h
       obtain ⟨hk, hzz⟩ := h
       have ht : (c :: l).take (runOf tailB (c :: l)) = t := by rw [← h2, h1]; exact List.take_left
       rw [ht] at hk
       refine ⟨t, r, h1, by omega, .inl ⟨hk.symm, ?_, h3, h4⟩⟩
       cases t with
       | nil => simp at h2; omega
       | cons d u =>
         have e : c = d := by simpa using (List.cons.inj h1).1
         exact ⟨d, u, rfl, e ▸ hc⟩
     · rw [nameLen_cons, if_neg hc] at hn; omega
 · by_cases hd : 0 < runOf digit l
   · rw [fDigit (by omega) hd] at h
     simp only [Prod.mk.injEq] at h
     obtain ⟨hk, hzz⟩ := h
     obtain ⟨t, r, h1, h2, h3, h4⟩ := take_run digit l
     refine ⟨t, r, h1, by omega, .inr (.inl ⟨hk.symm, ?_, h3, h4⟩)⟩
     intro e; rw [e] at h2; simp at h2; omega
   · by_cases hs : 0 < signLen l
     · rw [fSign (by omega) (by omega) hs] at h
       simp only [Prod.mk.injEq] at h
       obtain ⟨hk, hzz⟩ := h
       cases l with
       | nil => simp [signLen, twoB, List.isPrefixOf] at hs
       | cons c r =>
         by_cases ht : twoB (c :: r) = true
         · rw [signLen_cons', if_pos ht] at hzz
           obtain ⟨h1, h2⟩ := (two_cons c r).1 ht
           cases r with
           | nil => simp at h1
           | cons d r =>
             have e : d = 61 := by simpa using h1
             subst e
             refine ⟨[c, 61], r, rfl, hzz, .inr (.inr (.inl ⟨hk.symm, ?_⟩))⟩
             rcases h2 with rfl | rfl | rfl
             · exact .inl rfl
             · exact .inr (.inl rfl)
             · exact .inr (.inr rfl)
         · rw [signLen_cons', if_neg ht] at hzz
           by_cases hc : signsL.contains c = true
           · rw [if_pos hc] at hzz
             refine ⟨[c], r, rfl, hzz, .inr (.inr (.inr ⟨hk.symm, c, rfl, hc, ?_⟩))⟩
             intro h61
             refine ⟨?_, ?_, ?_⟩ <;> (intro e; exact ht ((two_cons c r).2 ⟨h61, by simp [e]⟩))
           · rw [if_neg hc] at hzz; omega
     · rw [fNone (by omega) (by omega) (by omega)] at h
       simp only [Prod.mk.injEq] at h
       omega
theorem first_none {c : UInt8} {r : List UInt8} : (firstOf (c :: r)).2 = 0 ↔ small c = false ∧ digit c = false ∧ signsL.contains c = false := by
 constructor
 · intro h
   have hn : nameLen (c :: r) = 0 := by
    rcases Nat.eq_zero_or_pos (nameLen (c :: r)) with h0 | h0
    · exact h0
    · rw [fName h0] at h; exact h
   have hs : small c = false := by
    cases hc : small c
    · rfl
    · rw [nameLen_cons, if_pos hc] at hn
      unfold runOf at hn
      rw [List.takeWhile_cons, if_pos (by simp [tailB, hc])] at hn
      simp at hn
   have hd0 : runOf digit (c :: r) = 0 := by
    rcases Nat.eq_zero_or_pos (runOf digit (c :: r)) with h0 | h0
    · exact h0
    · rw [fDigit hn h0] at h; exact h
   have hd : digit c = false := by
    cases hc : digit c
    · rfl
    · unfold runOf at hd0
      rw [List.takeWhile_cons, if_pos hc] at hd0
      simp at hd0
   have hg : signLen (c :: r) = 0 := by
    rcases Nat.eq_zero_or_pos (signLen (c :: r)) with h0 | h0
    · exact h0
    · rw [fSign hn hd0 h0] at h; exact h
   refine ⟨hs, hd, ?_⟩
   rw [signLen_cons'] at hg
   split at hg
   · omega
   · split at hg
     · omega
     · rename_i h2; simpa using h2
 · rintro ⟨h1, h2, h3⟩
   have ht : ¬ twoB (c :: r) = true := by
    rw [two_cons]
    rintro ⟨_, e | e | e⟩ <;> (rw [e] at h3; revert h3; decide)
   rw [fNone (nameLen_no h1) (runD_no h2) (by rw [signLen_cons', if_neg ht, if_neg (by rw [h3]; simp)])]
theorem shape_bytes {k : Nat} {t : List UInt8} {h : Option UInt8} (hs : Shape k t h) : t ≠ [] ∧ ∀ c ∈ t, 32 < c.toNat := by
 rcases hs with ⟨hk, ⟨c, u, hc, hsm⟩, ha, hst⟩ | ⟨hk, hne, ha, hst⟩ | ⟨hk, ht⟩ | ⟨hk, c, ht, hc, hst⟩
 · refine ⟨by rw [hc]; simp, fun d hd => ?_⟩
   have := ha d hd
   simp only [tailB, small, digit, Bool.or_eq_true, Bool.and_eq_true, decide_eq_true_eq, beq_iff_eq] at this
   omega
 · refine ⟨hne, fun d hd => ?_⟩
   have := ha d hd
   simp only [digit, Bool.and_eq_true, decide_eq_true_eq] at this
   omega
 · rcases ht with rfl | rfl | rfl <;> exact ⟨by simp, by decide⟩
 · subst ht
   refine ⟨by simp, fun d hd => ?_⟩
   rw [List.mem_singleton.1 hd]
   exact (sign_plain hc).2.2
theorem blank_not {c : UInt8} (h : 32 < c.toNat) : blankB c = false := by
 unfold blankB
 rw [Bool.or_eq_false_iff, beq_eq_false_iff_ne, beq_eq_false_iff_ne]
 omega
theorem blank_of {c : UInt8} (h : blankB c = true) : tailB c = false ∧ digit c = false ∧ c ≠ 61 := by
 have h' : c.toNat = 32 ∨ c.toNat = 10 := by simpa [blankB] using h
 refine ⟨?_, ?_, ?_⟩
 · rw [Bool.eq_false_iff]
   intro ht
   simp only [tailB, small, digit, Bool.or_eq_true, Bool.and_eq_true, decide_eq_true_eq, beq_iff_eq] at ht
   omega
 · rw [Bool.eq_false_iff]
   intro ht
   simp only [digit, Bool.and_eq_true, decide_eq_true_eq] at ht
   omega
 · rintro rfl
   revert h'; decide
theorem shape_soft {k : Nat} {t : List UInt8} {h h' : Option UInt8} (hs : Shape k t h) (hb : ∀ c, h' = some c → blankB c = true) : Shape k t h' := by
 rcases hs with ⟨hk, hc, ha, hst⟩ | ⟨hk, hne, ha, hst⟩ | ⟨hk, ht⟩ | ⟨hk, c, ht, hc, hst⟩
 · exact .inl ⟨hk, hc, ha, fun c e => (blank_of (hb c e)).1⟩
 · exact .inr (.inl ⟨hk, hne, ha, fun c e => (blank_of (hb c e)).2.1⟩)
 · exact .inr (.inr (.inl ⟨hk, ht⟩))
 · exact .inr (.inr (.inr ⟨hk, c, ht, hc, fun e => absurd rfl (blank_of (hb 61 e)).2.2⟩))
theorem sc_none {c : UInt8} {r : List UInt8} (p n : Nat) (h0 : blankB c = false) (h1 : small c = false) (h2 : digit c = false) (h3 : signsL.contains c = false) : sc (c :: r) 0 p n = .err p 10 := by
 have hz := first_none (r := r) |>.2 ⟨h1, h2, h3⟩
 have hk := (firstOf_zero (c :: r)).2 hz
 have he : wrongOf (firstOf (c :: r)).1 ((c :: r).take (firstOf (c :: r)).2) n = 10 := by rw [hk]; rfl
 rw [sc_err h0 (by rw [he]; decide), he]
theorem sc_shape {k : Nat} {t r : List UInt8} (p n : Nat) (h : Shape k t r.head?) : sc (t ++ r) 0 p n =
  if wrongOf k t n = 0 then (sc r 0 (p + t.length) (n + 1)).pre [⟨k, t, p⟩] else .err p (wrongOf k t n) := by
 obtain ⟨hne, hb⟩ := shape_bytes h
 have hf := shape_first h
 obtain ⟨c, u, rfl⟩ := List.exists_cons_of_ne_nil hne
 have h0 := blank_not (hb c (by simp))
 have hf' : firstOf (c :: (u ++ r)) = (k, (c :: u).length) := hf
 have ht : (c :: (u ++ r)).take (c :: u).length = c :: u := List.take_left (l₁ := c :: u) (l₂ := r)
 have hd : (c :: (u ++ r)).drop (c :: u).length = r := List.drop_left (l₁ := c :: u) (l₂ := r)
 show sc (c :: (u ++ r)) 0 p n = _
 by_cases he : wrongOf k (c :: u) n = 0
 · rw [if_pos he, sc_tok h0 (by rw [hf', ht]; exact he), hf', ht, hd]
 · rw [if_neg he, sc_err h0 (by rw [hf', ht]; exact he), hf', ht]
theorem sc_ways (l : List UInt8) : l = [] ∨ (∃ c r, l = c :: r ∧ blankB c = true) ∨ (∃ c r, l = c :: r ∧ blankB c = false ∧ small c = false ∧ digit c = false ∧ signsL.contains c = false) ∨
  ∃ k t r, l = t ++ r ∧ Shape k t r.head? := by
 cases l with
 | nil => exact .inl rfl
 | cons c r =>
   cases hb : blankB c with
   | true => exact .inr (.inl ⟨c, r, rfl, hb⟩)
   | false =>
     by_cases hz : (firstOf (c :: r)).2 = 0
     · exact .inr (.inr (.inl ⟨c, r, rfl, hb, first_none.1 hz⟩))
     · obtain ⟨t, r', h1, _, h3⟩ := first_shape (l := c :: r) (k := (firstOf (c :: r)).1) (z := (firstOf (c :: r)).2) rfl hz
       exact .inr (.inr (.inr ⟨_, t, r', h1, h3⟩))
end Go.Proofs.YtbckeljbpknbdaaGreatDoor
end
section
set_option linter.unusedVariables false
namespace Go.Proofs.YtbckeljbpknbdaaGreatDoor
theorem sc_ind {P : List UInt8 → Prop} (h0 : P []) (h1 : ∀ c r, blankB c = true → P r → P (c :: r))
  (h2 : ∀ c r, blankB c = false → small c = false → digit c = false → signsL.contains c = false → P (c :: r))
  (h3 : ∀ k t r, Shape k t r.head? → P r → P (t ++ r)) : ∀ l, P l := by
 have : ∀ n, ∀ l : List UInt8, l.length ≤ n → P l := by
  intro n
  induction n with
  | zero =>
    intro l hl
    obtain rfl : l = [] := List.eq_nil_of_length_eq_zero (by omega)
    exact h0
  | succ n ih =>
    intro l hl
    rcases sc_ways l with rfl | ⟨c, r, rfl, hb⟩ | ⟨c, r, rfl, a, b, d, e⟩ | ⟨k, t, r, rfl, hs⟩
    · exact h0
    · exact h1 c r hb (ih r (by simpa using hl))
    · exact h2 c r a b d e
    · have hne := (shape_bytes hs).1
      refine h3 k t r hs (ih r ?_)
      cases t with
      | nil => exact absurd rfl hne
      | cons c u => simp at hl; omega
 exact fun l => this l.length l (Nat.le_refl _)
theorem pre_ok {acc y : List Tok} {x : Res} (h : x.pre acc = .ok y) : ∃ z, x = .ok z ∧ y = acc ++ z := by
 cases x with
 | ok z => exact ⟨z, rfl, by simp only [Res.pre, Res.ok.injEq] at h; exact h.symm⟩
 | err p e => simp [Res.pre] at h
theorem pre_err {acc : List Tok} {x : Res} {p e : Nat} (h : x.pre acc = .err p e) : x = .err p e := by
 cases x with
 | ok z => simp [Res.pre] at h
 | err q f => simpa [Res.pre] using h
def Alike : List Tok → List Tok → Prop
 | [], [] => True
 | s :: x, t :: y => s.kind = t.kind ∧ s.text = t.text ∧ Alike x y
 | _, _ => False
theorem Alike.len : ∀ {x y : List Tok}, Alike x y → x.length = y.length
 | [], [], _ => rfl
 | _ :: _, _ :: _, h => by rw [List.length_cons, List.length_cons, Alike.len h.2.2]
def Placed (s : List UInt8) : Nat → List Tok → Prop
 | _, [] => True
 | last, t :: y => last ≤ t.pl ∧ t.pl + t.text.length ≤ s.length ∧ (s.drop t.pl).take t.text.length = t.text ∧ t.text ≠ [] ∧ (∀ c ∈ t.text, 32 < c.toNat) ∧ Placed s (t.pl + t.text.length) y
theorem Placed.less {s : List UInt8} {a b : Nat} {y : List Tok} (h : Placed s a y) (hb : b ≤ a) : Placed s b y := by
 cases y with
 | nil => trivial
 | cons t y => exact ⟨by have := h.1; omega, h.2⟩
theorem sc_placed (s : List UInt8) : ∀ (l : List UInt8) (p n : Nat) (y : List Tok), s.drop p = l → sc l 0 p n = .ok y → Placed s p y := by
 intro l
 refine sc_ind (P := fun l => ∀ (p n : Nat) (y : List Tok), s.drop p = l → sc l 0 p n = .ok y → Placed s p y) ?_ ?_ ?_ ?_ l
 · intro p n y _ h
   have e : Res.ok [] = .ok y := h
   simp only [Res.ok.injEq] at e
   subst e
   trivial
 · intro c r hb ih p n y hd h
   rw [sc_blank hb] at h
   have hd' : s.drop (p + 1) = r := by
    rw [← List.drop_drop, hd]; rfl
   exact (ih (p + 1) n y hd' h).less (by omega)
 · intro c r a b' e f p n y _ h
   rw [sc_none p n a b' e f] at h
   cases h
 · intro k t r hs ih p n y hd h
   rw [sc_shape p n hs] at h
   by_cases he : wrongOf k t n = 0
   · rw [if_pos he] at h
     obtain ⟨z, hz, rfl⟩ := pre_ok h
     obtain ⟨hne, hby⟩ := shape_bytes hs
     have hd' : s.drop (p + t.length) = r := by
      rw [← List.drop_drop, hd, List.drop_left]
     have hlen : t.length + r.length = s.length - p := by rw [← List.length_append, ← hd, List.length_drop]
     have ht0 : 0 < t.length := List.length_pos_iff.2 hne
     exact ⟨Nat.le_refl _, by show p + t.length ≤ s.length; omega, by rw [hd]; exact List.take_left, hne, hby, ih _ _ _ hd' hz⟩
   · rw [if_neg he] at h
     cases h
theorem sc_err_ne : ∀ (l : List UInt8) (p n q c : Nat), sc l 0 p n = .err q c → c ≠ 0 := by
 intro l
 refine sc_ind (P := fun l => ∀ (p n q c : Nat), sc l 0 p n = .err q c → c ≠ 0) ?_ ?_ ?_ ?_ l
 · intro p n q c h
   have e : Res.ok [] = .err q c := h
   cases e
 · intro d r hb ih p n q c h
   rw [sc_blank hb] at h
   exact ih _ _ _ _ h
 · intro d r a b' e f p n q c h
   rw [sc_none p n a b' e f] at h
   simp only [Res.err.injEq] at h
   omega
 · intro k t r hs ih p n q c h
   rw [sc_shape p n hs] at h
   by_cases he : wrongOf k t n = 0
   · rw [if_pos he] at h
     exact ih _ _ _ _ (pre_err h)
   · rw [if_neg he] at h
     simp only [Res.err.injEq] at h
     omega
theorem sc_count : ∀ (l : List UInt8) (p n : Nat) (y : List Tok), sc l 0 p n = .ok y → n ≤ 4096 → n + y.length ≤ 4096 := by
 intro l
 refine sc_ind (P := fun l => ∀ (p n : Nat) (y : List Tok), sc l 0 p n = .ok y → n ≤ 4096 → n + y.length ≤ 4096) ?_ ?_ ?_ ?_ l
 · intro p n y h hn
   have e : Res.ok [] = .ok y := h
   simp only [Res.ok.injEq] at e
   subst e
   simpa using hn
 · intro d r hb ih p n y h hn
   rw [sc_blank hb] at h
   exact ih _ _ _ h hn
 · intro d r a b' e f p n y h hn
   rw [sc_none p n a b' e f] at h
   cases h
 · intro k t r hs ih p n y h hn
   rw [sc_shape p n hs] at h
   by_cases he : wrongOf k t n = 0
   · rw [if_pos he] at h
     obtain ⟨z, hz, rfl⟩ := pre_ok h
     have := wrongOf_n he
     have := ih _ _ _ hz (by omega)
     rw [List.length_append, List.length_singleton]; omega
   · rw [if_neg he] at h
     cases h
theorem toks_count {l : List UInt8} {y : List Tok} (h : toks l = .ok y) : y.length ≤ 4096 := by
 unfold toks at h
 split at h
 · cases h
 · have := sc_count _ _ _ _ h (by omega)
   omega
theorem toks_err_ne {l : List UInt8} {q c : Nat} (h : toks l = .err q c) : c ≠ 0 := by
 unfold toks at h
 split at h
 · simp only [Res.err.injEq] at h; omega
 · exact sc_err_ne _ _ _ _ _ h
end Go.Proofs.YtbckeljbpknbdaaGreatDoor
end
section
set_option linter.unusedVariables false
namespace Go.Proofs.YtbckeljbpknbdaaGreatDoor
open Go.RowKit
theorem sc_okT : ∀ (l : List UInt8) (p n : Nat) (y : List Tok), l.length ≤ 16384 → sc l 0 p n = .ok y → ∀ t ∈ y, TokOk t := by
 intro l
 refine sc_ind (P := fun l => ∀ (p n : Nat) (y : List Tok), l.length ≤ 16384 → sc l 0 p n = .ok y → ∀ t ∈ y, TokOk t) ?_ ?_ ?_ ?_ l
 · intro p n y hl h
   have e : Res.ok [] = .ok y := h
   simp only [Res.ok.injEq] at e
   subst e
   intro t ht; cases ht
 · intro d r hb ih p n y hl h
   rw [sc_blank hb] at h
   exact ih _ _ _ (by simp at hl; omega) h
 · intro d r a b' e f p n y hl h
   rw [sc_none p n a b' e f] at h
   cases h
 · intro k t r hs ih p n y hl h
   rw [sc_shape p n hs] at h
   by_cases he : wrongOf k t n = 0
   · rw [if_pos he] at h
     obtain ⟨z, hz, rfl⟩ := pre_ok h
     intro u hu
     rcases List.mem_append.1 hu with hu | hu
     · obtain rfl : u = ⟨k, t, p⟩ := by simpa using hu
       have hk := wrongOf_kind he
       have hn := wrongOf_n he
       refine ⟨(shape_bytes hs).1, by simp at hl ⊢; omega, fun h1 => ?_, fun h2 => ?_⟩
       · have hs0 : Shape k t ([] : List UInt8).head? := shape_soft hs nofun
         have hf := shape_first hs0
         rw [List.append_nil] at hf
         have h1' : k = 1 := h1
         have h16 : t.length ≤ 16 := by
          by_cases h16 : t.length ≤ 16
          · exact h16
          · exfalso
            unfold wrongOf at he
            rw [if_neg hk, if_pos (.inl ⟨h1', by omega⟩)] at he
            cases he
         unfold nameB
         rw [hf]
         exact decide_eq_true ⟨h1', rfl, h16⟩
       · have h2' : k = 2 := h2
         refine ⟨?_, ?_⟩
         · rcases hs with ⟨hk', -⟩ | ⟨-, -, ha, -⟩ | ⟨hk', -⟩ | ⟨hk', -⟩
           · exfalso; rw [h2'] at hk'; split at hk' <;> omega
           · exact ha
           · omega
           · omega
         · show t.length ≤ 18
           by_cases h18 : t.length ≤ 18
           · exact h18
           · exfalso
             unfold wrongOf at he
             rw [if_neg hk, if_neg (by omega), if_pos ⟨h2', .inl (by omega)⟩] at he
             cases he
     · exact ih _ _ _ (by simp at hl; omega) hz u hu
   · rw [if_neg he] at h
     cases h
theorem toks_okT {l : List UInt8} {y : List Tok} (h : toks l = .ok y) : ∀ t ∈ y, TokOk t := by
 unfold toks at h
 split at h
 · cases h
 · exact sc_okT l 0 0 y (by omega) h
section
variable {a b : List UInt8}
end
end Go.Proofs.YtbckeljbpknbdaaGreatDoor
end
