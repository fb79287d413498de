/- Texts of tokens: how the answers of Tokens for several texts hang together. -/
import Derived.Test.YtofodbaiehifjaaRa
namespace Go.Proofs.Ytofodbaiehifjaa

theorem take_run (p : UInt8 → Bool) (l : List UInt8) : ∃ t r, l = t ++ r ∧ t.length = runOf p l ∧ (∀ c ∈ t, p c = true) ∧ ∀ c, r.head? = some c → p c = false := by
  induction l with
  | nil => exact ⟨[], [], rfl, rfl, by simp, by simp⟩
  | cons c l ih =>
    by_cases hc : p c = true
    · obtain ⟨t, r, h1, h2, h3, h4⟩ := ih
      refine ⟨c :: t, r, by rw [h1]; rfl, ?_, ?_, h4⟩
      · unfold runOf at h2 ⊢
        rw [List.takeWhile_cons, if_pos hc, List.length_cons, List.length_cons, h2]
      · intro d hd
        rcases List.mem_cons.1 hd with e | e
        · rw [e]; exact hc
        · exact h3 d e
    · refine ⟨[], c :: l, rfl, ?_, by simp, ?_⟩
      · unfold runOf
        rw [List.takeWhile_cons, if_neg hc]
      · intro d hd
        have e : c = d := by simpa using hd
        rw [← e]; simpa using hc
theorem run_app {p : UInt8 → Bool} {t r : List UInt8} (h : ∀ c ∈ t, p c = true) (hs : ∀ c, r.head? = some c → p c = false) : runOf p (t ++ r) = t.length := by
  unfold runOf
  rw [List.takeWhile_append_of_pos h]
  cases r with
  | nil => simp
  | cons c r =>
    have hc : ¬ p c = true := by simp [hs c rfl]
    rw [List.takeWhile_cons, if_neg hc]
    simp

/-- a token's bytes, with the byte behind it -/
def Shape (k : Nat) (t : List UInt8) (h : Option UInt8) : Prop :=
  (k = (if isWord t then 4 else 1) ∧ (∃ c u, t = c :: u ∧ small c = true) ∧ (∀ c ∈ t, tailB c = true) ∧ ∀ c, h = some c → tailB c = false) ∨
  (k = 2 ∧ t ≠ [] ∧ (∀ c ∈ t, digit c = true) ∧ ∀ c, h = some c → digit c = false) ∨
  (k = 3 ∧ (t = [60, 61] ∨ t = [61, 61] ∨ t = [33, 61])) ∨
  (k = 3 ∧ ∃ c, t = [c] ∧ signsL.contains c = true ∧ (h = some 61 → c ≠ 60 ∧ c ≠ 61 ∧ c ≠ 33))

theorem fName {l : List UInt8} (h : 0 < nameLen l) : firstOf l = (if isWord (l.take (nameLen l)) then 4 else 1, nameLen l) := by
  unfold firstOf; rw [if_pos h]
theorem fDigit {l : List UInt8} (h : nameLen l = 0) (h1 : 0 < runOf digit l) : firstOf l = (2, runOf digit l) := by
  unfold firstOf; rw [if_neg (by omega), if_pos h1]
theorem fSign {l : List UInt8} (h : nameLen l = 0) (h1 : runOf digit l = 0) (h2 : 0 < signLen l) : firstOf l = (3, signLen l) := by
  unfold firstOf; rw [if_neg (by omega), if_neg (by omega), if_pos h2]
theorem fNone {l : List UInt8} (h : nameLen l = 0) (h1 : runOf digit l = 0) (h2 : signLen l = 0) : firstOf l = (0, 0) := by
  unfold firstOf; rw [if_neg (by omega), if_neg (by omega), if_neg (by omega)]

theorem signs_plain : ∀ c ∈ signsL, small c = false ∧ digit c = false ∧ 32 < c.toNat := by decide
theorem sign_plain {c : UInt8} (h : signsL.contains c = true) : small c = false ∧ digit c = false ∧ 32 < c.toNat := signs_plain c (List.contains_iff_mem.1 h)
theorem digit_small {c : UInt8} (h : digit c = true) : small c = false := by
  unfold digit at h; unfold small
  simp only [Bool.and_eq_true, decide_eq_true_eq] at h
  rw [Bool.eq_false_iff]
  simp only [ne_eq, Bool.and_eq_true, decide_eq_true_eq]
  omega
theorem nameLen_no {c : UInt8} {r : List UInt8} (h : small c = false) : nameLen (c :: r) = 0 := by rw [nameLen_cons, if_neg (by simp [h])]
theorem runD_no {c : UInt8} {r : List UInt8} (h : digit c = false) : runOf digit (c :: r) = 0 := by
  unfold runOf; rw [List.takeWhile_cons, if_neg (by simp [h])]; rfl
theorem signLen_cons' (c : UInt8) (r : List UInt8) : signLen (c :: r) = if twoB (c :: r) then 2 else if signsL.contains c then 1 else 0 := rfl
theorem two_cons (c : UInt8) (r : List UInt8) : twoB (c :: r) = true ↔ r.head? = some 61 ∧ (c = 60 ∨ c = 61 ∨ c = 33) := by
  unfold twoB
  cases r with
  | nil => simp [List.isPrefixOf]
  | cons d r =>
    simp only [List.isPrefixOf, Bool.and_true, Bool.or_eq_true, Bool.and_eq_true, beq_iff_eq, List.head?_cons, Option.some.injEq]
    constructor
    · rintro ((⟨h1, h2⟩ | ⟨h1, h2⟩) | ⟨h1, h2⟩)
      · exact ⟨h2.symm, .inl h1.symm⟩
      · exact ⟨h2.symm, .inr (.inl h1.symm)⟩
      · exact ⟨h2.symm, .inr (.inr h1.symm)⟩
    · rintro ⟨h2, h1 | h1 | h1⟩
      · exact .inl (.inl ⟨h1.symm, h2.symm⟩)
      · exact .inl (.inr ⟨h1.symm, h2.symm⟩)
      · exact .inr ⟨h1.symm, h2.symm⟩

theorem shape_first {k : Nat} {t r : List UInt8} (h : Shape k t r.head?) : firstOf (t ++ r) = (k, t.length) := by
  rcases h with ⟨hk, ⟨c, u, hc, hs⟩, ha, hst⟩ | ⟨hk, hne, ha, hst⟩ | ⟨hk, ht⟩ | ⟨hk, c, ht, hc, hs⟩
  · have hn : nameLen (t ++ r) = t.length := by
      rw [← run_app ha hst, hc]
      show nameLen (c :: (u ++ r)) = _
      rw [nameLen_cons, if_pos hs]
      rfl
    have h0 : 0 < nameLen (t ++ r) := by rw [hn, hc]; simp
    rw [fName h0, hn, List.take_left, hk]
  · have hd : runOf digit (t ++ r) = t.length := run_app ha hst
    obtain ⟨c, u, rfl⟩ := List.exists_cons_of_ne_nil hne
    have h1 := digit_small (ha c (by simp))
    have hn0 : nameLen (c :: u ++ r) = 0 := nameLen_no (r := u ++ r) h1
    have hr0 : 0 < runOf digit (c :: u ++ r) := by rw [hd]; simp
    rw [fDigit hn0 hr0, hd, hk]
  · rcases ht with rfl | rfl | rfl
    all_goals
      rw [hk]
      show firstOf (_ :: 61 :: r) = (3, 2)
      rw [fSign (nameLen_no (by decide)) (runD_no (by decide)) (by rw [signLen_cons', if_pos ((two_cons _ _).2 ⟨rfl, by decide⟩)]; omega), signLen_cons', if_pos ((two_cons _ _).2 ⟨rfl, by decide⟩)]
  · subst ht
    obtain ⟨h1, h2, _⟩ := sign_plain hc
    have ht : ¬ twoB (c :: r) = true := by
      rw [two_cons]
      rintro ⟨h3, h4⟩
      obtain ⟨a, b, d⟩ := hs h3
      rcases h4 with e | e | e
      · exact a e
      · exact b e
      · exact d e
    have hl : signLen (c :: r) = 1 := by rw [signLen_cons', if_neg ht, if_pos hc]
    show firstOf (c :: r) = (k, 1)
    rw [fSign (nameLen_no h1) (runD_no h2) (by omega), hl, hk]

theorem first_shape {l : List UInt8} {k z : Nat} (h : firstOf l = (k, z)) (hz : z ≠ 0) : ∃ t r, l = t ++ r ∧ t.length = z ∧ Shape k t r.head? := by
  by_cases hn : 0 < nameLen l
  · rw [fName hn] at h
    cases l with
    | nil => simp [nameLen] at hn
    | cons c l =>
      by_cases hc : small c = true
      · rw [nameLen_cons, if_pos hc] at h
        obtain ⟨t, r, h1, h2, h3, h4⟩ := take_run tailB (c :: l)
        simp only [Prod.mk.injEq] at h
        obtain ⟨hk, hzz⟩ := h
        have ht : (c :: l).take (runOf tailB (c :: l)) = t := by rw [← h2, h1]; exact List.take_left
        rw [ht] at hk
        refine ⟨t, r, h1, by omega, .inl ⟨hk.symm, ?_, h3, h4⟩⟩
        cases t with
        | nil => simp at h2; omega
        | cons d u =>
          have e : c = d := by simpa using (List.cons.inj h1).1
          exact ⟨d, u, rfl, e ▸ hc⟩
      · rw [nameLen_cons, if_neg hc] at hn; omega
  · by_cases hd : 0 < runOf digit l
    · rw [fDigit (by omega) hd] at h
      simp only [Prod.mk.injEq] at h
      obtain ⟨hk, hzz⟩ := h
      obtain ⟨t, r, h1, h2, h3, h4⟩ := take_run digit l
      refine ⟨t, r, h1, by omega, .inr (.inl ⟨hk.symm, ?_, h3, h4⟩)⟩
      intro e; rw [e] at h2; simp at h2; omega
    · by_cases hs : 0 < signLen l
      · rw [fSign (by omega) (by omega) hs] at h
        simp only [Prod.mk.injEq] at h
        obtain ⟨hk, hzz⟩ := h
        cases l with
        | nil => simp [signLen, twoB, List.isPrefixOf] at hs
        | cons c r =>
          by_cases ht : twoB (c :: r) = true
          · rw [signLen_cons', if_pos ht] at hzz
            obtain ⟨h1, h2⟩ := (two_cons c r).1 ht
            cases r with
            | nil => simp at h1
            | cons d r =>
              have e : d = 61 := by simpa using h1
              subst e
              refine ⟨[c, 61], r, rfl, hzz, .inr (.inr (.inl ⟨hk.symm, ?_⟩))⟩
              rcases h2 with rfl | rfl | rfl
              · exact .inl rfl
              · exact .inr (.inl rfl)
              · exact .inr (.inr rfl)
          · rw [signLen_cons', if_neg ht] at hzz
            by_cases hc : signsL.contains c = true
            · rw [if_pos hc] at hzz
              refine ⟨[c], r, rfl, hzz, .inr (.inr (.inr ⟨hk.symm, c, rfl, hc, ?_⟩))⟩
              intro h61
              refine ⟨?_, ?_, ?_⟩ <;> (intro e; exact ht ((two_cons c r).2 ⟨h61, by simp [e]⟩))
            · rw [if_neg hc] at hzz; omega
      · rw [fNone (by omega) (by omega) (by omega)] at h
        simp only [Prod.mk.injEq] at h
        omega

theorem first_none {c : UInt8} {r : List UInt8} : (firstOf (c :: r)).2 = 0 ↔ small c = false ∧ digit c = false ∧ signsL.contains c = false := by
  constructor
  · intro h
    have hn : nameLen (c :: r) = 0 := by
      rcases Nat.eq_zero_or_pos (nameLen (c :: r)) with h0 | h0
      · exact h0
      · rw [fName h0] at h; exact h
    have hs : small c = false := by
      cases hc : small c
      · rfl
      · rw [nameLen_cons, if_pos hc] at hn
        unfold runOf at hn
        rw [List.takeWhile_cons, if_pos (by simp [tailB, hc])] at hn
        simp at hn
    have hd0 : runOf digit (c :: r) = 0 := by
      rcases Nat.eq_zero_or_pos (runOf digit (c :: r)) with h0 | h0
      · exact h0
      · rw [fDigit hn h0] at h; exact h
    have hd : digit c = false := by
      cases hc : digit c
      · rfl
      · unfold runOf at hd0
        rw [List.takeWhile_cons, if_pos hc] at hd0
        simp at hd0
    have hg : signLen (c :: r) = 0 := by
      rcases Nat.eq_zero_or_pos (signLen (c :: r)) with h0 | h0
      · exact h0
      · rw [fSign hn hd0 h0] at h; exact h
    refine ⟨hs, hd, ?_⟩
    rw [signLen_cons'] at hg
    split at hg
    · omega
    · split at hg
      · omega
      · rename_i h2; simpa using h2
  · rintro ⟨h1, h2, h3⟩
    have ht : ¬ twoB (c :: r) = true := by
      rw [two_cons]
      rintro ⟨_, e | e | e⟩ <;> (rw [e] at h3; revert h3; decide)
    rw [fNone (nameLen_no h1) (runD_no h2) (by rw [signLen_cons', if_neg ht, if_neg (by rw [h3]; simp)])]

theorem shape_bytes {k : Nat} {t : List UInt8} {h : Option UInt8} (hs : Shape k t h) : t ≠ [] ∧ ∀ c ∈ t, 32 < c.toNat := by
  rcases hs with ⟨hk, ⟨c, u, hc, hsm⟩, ha, hst⟩ | ⟨hk, hne, ha, hst⟩ | ⟨hk, ht⟩ | ⟨hk, c, ht, hc, hst⟩
  · refine ⟨by rw [hc]; simp, fun d hd => ?_⟩
    have := ha d hd
    simp only [tailB, small, digit, Bool.or_eq_true, Bool.and_eq_true, decide_eq_true_eq, beq_iff_eq] at this
    omega
  · refine ⟨hne, fun d hd => ?_⟩
    have := ha d hd
    simp only [digit, Bool.and_eq_true, decide_eq_true_eq] at this
    omega
  · rcases ht with rfl | rfl | rfl <;> exact ⟨by simp, by decide⟩
  · subst ht
    refine ⟨by simp, fun d hd => ?_⟩
    rw [List.mem_singleton.1 hd]
    exact (sign_plain hc).2.2
theorem blank_not {c : UInt8} (h : 32 < c.toNat) : blankB c = false := by
  unfold blankB
  rw [Bool.or_eq_false_iff, beq_eq_false_iff_ne, beq_eq_false_iff_ne]
  omega
theorem blank_of {c : UInt8} (h : blankB c = true) : tailB c = false ∧ digit c = false ∧ c ≠ 61 := by
  have h' : c.toNat = 32 ∨ c.toNat = 10 := by simpa [blankB] using h
  refine ⟨?_, ?_, ?_⟩
  · rw [Bool.eq_false_iff]
    intro ht
    simp only [tailB, small, digit, Bool.or_eq_true, Bool.and_eq_true, decide_eq_true_eq, beq_iff_eq] at ht
    omega
  · rw [Bool.eq_false_iff]
    intro ht
    simp only [digit, Bool.and_eq_true, decide_eq_true_eq] at ht
    omega
  · rintro rfl
    revert h'; decide
/-- with nothing behind it, or a blank, a token is the same -/
theorem shape_soft {k : Nat} {t : List UInt8} {h h' : Option UInt8} (hs : Shape k t h) (hb : ∀ c, h' = some c → blankB c = true) : Shape k t h' := by
  rcases hs with ⟨hk, hc, ha, hst⟩ | ⟨hk, hne, ha, hst⟩ | ⟨hk, ht⟩ | ⟨hk, c, ht, hc, hst⟩
  · exact .inl ⟨hk, hc, ha, fun c e => (blank_of (hb c e)).1⟩
  · exact .inr (.inl ⟨hk, hne, ha, fun c e => (blank_of (hb c e)).2.1⟩)
  · exact .inr (.inr (.inl ⟨hk, ht⟩))
  · exact .inr (.inr (.inr ⟨hk, c, ht, hc, fun e => absurd rfl (blank_of (hb 61 e)).2.2⟩))

theorem sc_none {c : UInt8} {r : List UInt8} (p n : Nat) (h0 : blankB c = false) (h1 : small c = false) (h2 : digit c = false) (h3 : signsL.contains c = false) : sc (c :: r) 0 p n = .err p 10 := by
  have hz := first_none (r := r) |>.2 ⟨h1, h2, h3⟩
  have hk := (firstOf_zero (c :: r)).2 hz
  have he : wrongOf (firstOf (c :: r)).1 ((c :: r).take (firstOf (c :: r)).2) n = 10 := by rw [hk]; rfl
  rw [sc_err h0 (by rw [he]; decide), he]
theorem sc_shape {k : Nat} {t r : List UInt8} (p n : Nat) (h : Shape k t r.head?) : sc (t ++ r) 0 p n =
    if wrongOf k t n = 0 then (sc r 0 (p + t.length) (n + 1)).pre [⟨k, t, p⟩] else .err p (wrongOf k t n) := by
  obtain ⟨hne, hb⟩ := shape_bytes h
  have hf := shape_first h
  obtain ⟨c, u, rfl⟩ := List.exists_cons_of_ne_nil hne
  have h0 := blank_not (hb c (by simp))
  have hf' : firstOf (c :: (u ++ r)) = (k, (c :: u).length) := hf
  have ht : (c :: (u ++ r)).take (c :: u).length = c :: u := List.take_left (l₁ := c :: u) (l₂ := r)
  have hd : (c :: (u ++ r)).drop (c :: u).length = r := List.drop_left (l₁ := c :: u) (l₂ := r)
  show sc (c :: (u ++ r)) 0 p n = _
  by_cases he : wrongOf k (c :: u) n = 0
  · rw [if_pos he, sc_tok h0 (by rw [hf', ht]; exact he), hf', ht, hd]
  · rw [if_neg he, sc_err h0 (by rw [hf', ht]; exact he), hf', ht]
/-- how a text begins -/
theorem sc_ways (l : List UInt8) : l = [] ∨ (∃ c r, l = c :: r ∧ blankB c = true) ∨ (∃ c r, l = c :: r ∧ blankB c = false ∧ small c = false ∧ digit c = false ∧ signsL.contains c = false) ∨
    ∃ k t r, l = t ++ r ∧ Shape k t r.head? := by
  cases l with
  | nil => exact .inl rfl
  | cons c r =>
    cases hb : blankB c with
    | true => exact .inr (.inl ⟨c, r, rfl, hb⟩)
    | false =>
      by_cases hz : (firstOf (c :: r)).2 = 0
      · exact .inr (.inr (.inl ⟨c, r, rfl, hb, first_none.1 hz⟩))
      · obtain ⟨t, r', h1, _, h3⟩ := first_shape (l := c :: r) (k := (firstOf (c :: r)).1) (z := (firstOf (c :: r)).2) rfl hz
        exact .inr (.inr (.inr ⟨_, t, r', h1, h3⟩))

end Go.Proofs.Ytofodbaiehifjaa
