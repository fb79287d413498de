/- Ta Tb Da -/
import Derived.Test.YtbckeljbpknbdaaGreatDoorVa0
set_option linter.unusedVariables false
set_option linter.unusedSimpArgs false
namespace Go.Proofs.YtbckeljbpknbdaaGreatDoor
open Go.RowKit
theorem Xys (p : UInt8 → Bool) (l : List UInt8) : ∃ t r, l = t ++ r ∧ t.length = Xcx p l ∧ (∀ c ∈ t, p c = true) ∧ ∀ c, r.head? = some c → p c = false := by
 induction l with
 | nil => exact ⟨[], [], rfl, rfl, by simp, by simp⟩
 | cons c l ih =>
   by_cases hc : p c = true
   · obtain ⟨t, r, h1, h2, h3, h4⟩ := ih
     refine ⟨c :: t, r, by rw [h1]; rfl, ?_, ?_, h4⟩
     · unfold Xcx at h2 ⊢
       rw [List.takeWhile_cons, if_pos hc, List.length_cons, List.length_cons, h2]
     · intro d hd
       rcases List.mem_cons.1 hd with e | e
       · rw [e]; exact hc
       · exact h3 d e
   · refine ⟨[], c :: l, rfl, ?_, by simp, ?_⟩
     · unfold Xcx
       rw [List.takeWhile_cons, if_neg hc]
     · intro d hd
       have e : c = d := by simpa using hd
       rw [← e]; simpa using hc
theorem Yfa {p : UInt8 → Bool} {t r : List UInt8} (h : ∀ c ∈ t, p c = true) (hs : ∀ c, r.head? = some c → p c = false) : Xcx p (t ++ r) = t.length := by
 unfold Xcx
 rw [List.takeWhile_append_of_pos h]
 cases r with
 | nil => simp
 | cons c r =>
   have hc : ¬ p c = true := by simp [hs c rfl]
   rw [List.takeWhile_cons, if_neg hc]
   simp
def Xjg (k : Nat) (t : List UInt8) (h : Option UInt8) : Prop :=
 (k = (if Xka t then 4 else 1) ∧ (∃ c u, t = c :: u ∧ Xfk c = true) ∧ (∀ c ∈ t, Xgh c = true) ∧ ∀ c, h = some c → Xgh c = false) ∨
 (k = 2 ∧ t ≠ [] ∧ (∀ c ∈ t, Xcd c = true) ∧ ∀ c, h = some c → Xcd c = false) ∨
 (k = 3 ∧ (t = [60, 61] ∨ t = [61, 61] ∨ t = [33, 61])) ∨
 (k = 3 ∧ ∃ c, t = [c] ∧ Xgf.contains c = true ∧ (h = some 61 → c ≠ 60 ∧ c ≠ 61 ∧ c ≠ 33))
theorem fName {l : List UInt8} (h : 0 < Xbp l) : Xao l = (if Xka (l.take (Xbp l)) then 4 else 1, Xbp l) := by
 unfold Xao; rw [if_pos h]
theorem Ycw {l : List UInt8} (h : Xbp l = 0) (h1 : 0 < Xcx Xcd l) : Xao l = (2, Xcx Xcd l) := by
 unfold Xao; rw [if_neg (by omega), if_pos h1]
theorem fSign {l : List UInt8} (h : Xbp l = 0) (h1 : Xcx Xcd l = 0) (h2 : 0 < Xdi l) : Xao l = (3, Xdi l) := by
 unfold Xao; rw [if_neg (by omega), if_neg (by omega), if_pos h2]
theorem fNone {l : List UInt8} (h : Xbp l = 0) (h1 : Xcx Xcd l = 0) (h2 : Xdi l = 0) : Xao l = (0, 0) := by
 unfold Xao; rw [if_neg (by omega), if_neg (by omega), if_neg (by omega)]
theorem Xwm : ∀ c ∈ Xgf, Xfk c = false ∧ Xcd c = false ∧ 32 < c.toNat := by decide
theorem Xpz {c : UInt8} (h : Xgf.contains c = true) : Xfk c = false ∧ Xcd c = false ∧ 32 < c.toNat := Xwm c (List.contains_iff_mem.1 h)
theorem Xva {c : UInt8} (h : Xcd c = true) : Xfk c = false := by
 unfold Xcd at h; unfold Xfk
 simp only [Bool.and_eq_true, decide_eq_true_eq] at h
 rw [Bool.eq_false_iff]
 simp only [ne_eq, Bool.and_eq_true, decide_eq_true_eq]
 omega
theorem Xix {c : UInt8} {r : List UInt8} (h : Xfk c = false) : Xbp (c :: r) = 0 := by rw [Xdd, if_neg (by simp [h])]
theorem Xwl {c : UInt8} {r : List UInt8} (h : Xcd c = false) : Xcx Xcd (c :: r) = 0 := by
 unfold Xcx; rw [List.takeWhile_cons, if_neg (by simp [h])]; rfl
theorem Xdz (c : UInt8) (r : List UInt8) : Xdi (c :: r) = if twoB (c :: r) then 2 else if Xgf.contains c then 1 else 0 := rfl
theorem Xja (c : UInt8) (r : List UInt8) : twoB (c :: r) = true ↔ r.head? = some 61 ∧ (c = 60 ∨ c = 61 ∨ c = 33) := by
 unfold twoB
 cases r with
 | nil => simp [List.isPrefixOf]
 | cons d r =>
   simp only [List.isPrefixOf, Bool.and_true, Bool.or_eq_true, Bool.and_eq_true, beq_iff_eq, List.head?_cons, Option.some.injEq]
   constructor
   · rintro ((⟨h1, h2⟩ | ⟨h1, h2⟩) | ⟨h1, h2⟩)
     · exact ⟨h2.symm, .inl h1.symm⟩
     · exact ⟨h2.symm, .inr (.inl h1.symm)⟩
     · exact ⟨h2.symm, .inr (.inr h1.symm)⟩
   · rintro ⟨h2, h1 | h1 | h1⟩
     · exact .inl (.inl ⟨h1.symm, h2.symm⟩)
     · exact .inl (.inr ⟨h1.symm, h2.symm⟩)
     · exact .inr ⟨h1.symm, h2.symm⟩
theorem Xok {k : Nat} {t r : List UInt8} (h : Xjg k t r.head?) : Xao (t ++ r) = (k, t.length) := by
 rcases h with ⟨hk, ⟨c, u, hc, hs⟩, ha, hst⟩ | ⟨hk, hne, ha, hst⟩ | ⟨hk, ht⟩ | ⟨hk, c, ht, hc, hs⟩
 · have hn : Xbp (t ++ r) = t.length := by
    rw [← Yfa ha hst, hc]
    show Xbp (c :: (u ++ r)) = _
    rw [Xdd, if_pos hs]
    rfl
   have h0 : 0 < Xbp (t ++ r) := by rw [hn, hc]; simp
   rw [fName h0, hn, List.take_left, hk]
 · have hd : Xcx Xcd (t ++ r) = t.length := Yfa ha hst
   obtain ⟨c, u, rfl⟩ := List.exists_cons_of_ne_nil hne
   have h1 := Xva (ha c (by simp))
   have hn0 : Xbp (c :: u ++ r) = 0 := Xix (r := u ++ r) h1
   have hr0 : 0 < Xcx Xcd (c :: u ++ r) := by rw [hd]; simp
   rw [Ycw hn0 hr0, hd, hk]
 · rcases ht with rfl | rfl | rfl
   all_goals
    rw [hk]
    show Xao (_ :: 61 :: r) = (3, 2)
    rw [fSign (Xix (by decide)) (Xwl (by decide)) (by rw [Xdz, if_pos ((Xja _ _).2 ⟨rfl, by decide⟩)]; omega), Xdz, if_pos ((Xja _ _).2 ⟨rfl, by decide⟩)]
 · subst ht
   obtain ⟨h1, h2, _⟩ := Xpz hc
   have ht : ¬ twoB (c :: r) = true := by
    rw [Xja]
    rintro ⟨h3, h4⟩
    obtain ⟨a, b, d⟩ := hs h3
    rcases h4 with e | e | e
    · exact a e
    · exact b e
    · exact d e
   have hl : Xdi (c :: r) = 1 := by rw [Xdz, if_neg ht, if_pos hc]
   show Xao (c :: r) = (k, 1)
   rw [fSign (Xix h1) (Xwl h2) (by omega), hl, hk]
theorem Xvi {l : List UInt8} {k z : Nat} (h : Xao l = (k, z)) (hz : z ≠ 0) : ∃ t r, l = t ++ r ∧ t.length = z ∧ Xjg k t r.head? := by
 by_cases hn : 0 < Xbp l
 · rw [fName hn] at h
   cases l with
   | nil => simp [Xbp] at hn
   | cons c l =>
     by_cases hc : Xfk c = true
     · rw [Xdd, if_pos hc] at h
       obtain ⟨t, r, h1, h2, h3, h4⟩ := Xys Xgh (c :: l)
       simp only [Prod.mk.injEq] at h
       obtain ⟨hk, hzz⟩ := h
       have ht : (c :: l).take (Xcx Xgh (c :: l)) = t := by rw [← h2, h1]; exact List.take_left
       rw [ht] at hk
       refine ⟨t, r, h1, by omega, .inl ⟨hk.symm, ?_, h3, h4⟩⟩
       cases t with
       | nil => simp at h2; omega
       | cons d u =>
         have e : c = d := by simpa using (List.cons.inj h1).1
         exact ⟨d, u, rfl, e ▸ hc⟩
     · rw [Xdd, if_neg hc] at hn; omega
 · by_cases hd : 0 < Xcx Xcd l
   · rw [Ycw (by omega) hd] at h
     simp only [Prod.mk.injEq] at h
     obtain ⟨hk, hzz⟩ := h
     obtain ⟨t, r, h1, h2, h3, h4⟩ := Xys Xcd l
     refine ⟨t, r, h1, by omega, .inr (.inl ⟨hk.symm, ?_, h3, h4⟩)⟩
     intro e; rw [e] at h2; simp at h2; omega
   · by_cases hs : 0 < Xdi l
     · rw [fSign (by omega) (by omega) hs] at h
       simp only [Prod.mk.injEq] at h
       obtain ⟨hk, hzz⟩ := h
       cases l with
       | nil => simp [Xdi, twoB, List.isPrefixOf] at hs
       | cons c r =>
         by_cases ht : twoB (c :: r) = true
         · rw [Xdz, if_pos ht] at hzz
           obtain ⟨h1, h2⟩ := (Xja c r).1 ht
           cases r with
           | nil => simp at h1
           | cons d r =>
             have e : d = 61 := by simpa using h1
             subst e
             refine ⟨[c, 61], r, rfl, hzz, .inr (.inr (.inl ⟨hk.symm, ?_⟩))⟩
             rcases h2 with rfl | rfl | rfl
             · exact .inl rfl
             · exact .inr (.inl rfl)
             · exact .inr (.inr rfl)
         · rw [Xdz, if_neg ht] at hzz
           by_cases hc : Xgf.contains c = true
           · rw [if_pos hc] at hzz
             refine ⟨[c], r, rfl, hzz, .inr (.inr (.inr ⟨hk.symm, c, rfl, hc, ?_⟩))⟩
             intro h61
             refine ⟨?_, ?_, ?_⟩ <;> (intro e; exact ht ((Xja c r).2 ⟨h61, by simp [e]⟩))
           · rw [if_neg hc] at hzz; omega
     · rw [fNone (by omega) (by omega) (by omega)] at h
       simp only [Prod.mk.injEq] at h
       omega
theorem Xpo {c : UInt8} {r : List UInt8} : (Xao (c :: r)).2 = 0 ↔ Xfk c = false ∧ Xcd c = false ∧ Xgf.contains c = false := by
 constructor
 · intro h
   have hn : Xbp (c :: r) = 0 := by
    rcases Nat.eq_zero_or_pos (Xbp (c :: r)) with h0 | h0
    · exact h0
    · rw [fName h0] at h; exact h
   have hs : Xfk c = false := by
    cases hc : Xfk c
    · rfl
    · rw [Xdd, if_pos hc] at hn
      unfold Xcx at hn
      rw [List.takeWhile_cons, if_pos (by simp [Xgh, hc])] at hn
      simp at hn
   have hd0 : Xcx Xcd (c :: r) = 0 := by
    rcases Nat.eq_zero_or_pos (Xcx Xcd (c :: r)) with h0 | h0
    · exact h0
    · rw [Ycw hn h0] at h; exact h
   have hd : Xcd c = false := by
    cases hc : Xcd c
    · rfl
    · unfold Xcx at hd0
      rw [List.takeWhile_cons, if_pos hc] at hd0
      simp at hd0
   have hg : Xdi (c :: r) = 0 := by
    rcases Nat.eq_zero_or_pos (Xdi (c :: r)) with h0 | h0
    · exact h0
    · rw [fSign hn hd0 h0] at h; exact h
   refine ⟨hs, hd, ?_⟩
   rw [Xdz] at hg
   split at hg
   · omega
   · split at hg
     · omega
     · rename_i h2; simpa using h2
 · rintro ⟨h1, h2, h3⟩
   have ht : ¬ twoB (c :: r) = true := by
    rw [Xja]
    rintro ⟨_, e | e | e⟩ <;> (rw [e] at h3; revert h3; decide)
   rw [fNone (Xix h1) (Xwl h2) (by rw [Xdz, if_neg ht, if_neg (by rw [h3]; simp)])]
theorem Xes {k : Nat} {t : List UInt8} {h : Option UInt8} (hs : Xjg k t h) : t ≠ [] ∧ ∀ c ∈ t, 32 < c.toNat := by
 rcases hs with ⟨hk, ⟨c, u, hc, hsm⟩, ha, hst⟩ | ⟨hk, hne, ha, hst⟩ | ⟨hk, ht⟩ | ⟨hk, c, ht, hc, hst⟩
 · refine ⟨by rw [hc]; simp, fun d hd => ?_⟩
   have := ha d hd
   simp only [Xgh, Xfk, Xcd, Bool.or_eq_true, Bool.and_eq_true, decide_eq_true_eq, beq_iff_eq] at this
   omega
 · refine ⟨hne, fun d hd => ?_⟩
   have := ha d hd
   simp only [Xcd, Bool.and_eq_true, decide_eq_true_eq] at this
   omega
 · rcases ht with rfl | rfl | rfl <;> exact ⟨by simp, by decide⟩
 · subst ht
   refine ⟨by simp, fun d hd => ?_⟩
   rw [List.mem_singleton.1 hd]
   exact (Xpz hc).2.2
theorem Xsb {c : UInt8} (h : 32 < c.toNat) : Xdk c = false := by
 unfold Xdk
 rw [Bool.or_eq_false_iff, beq_eq_false_iff_ne, beq_eq_false_iff_ne]
 omega
theorem Xqp {c : UInt8} (h : Xdk c = true) : Xgh c = false ∧ Xcd c = false ∧ c ≠ 61 := by
 have h' : c.toNat = 32 ∨ c.toNat = 10 := by simpa [Xdk] using h
 refine ⟨?_, ?_, ?_⟩
 · rw [Bool.eq_false_iff]
   intro ht
   simp only [Xgh, Xfk, Xcd, Bool.or_eq_true, Bool.and_eq_true, decide_eq_true_eq, beq_iff_eq] at ht
   omega
 · rw [Bool.eq_false_iff]
   intro ht
   simp only [Xcd, Bool.and_eq_true, decide_eq_true_eq] at ht
   omega
 · rintro rfl
   revert h'; decide
theorem Xfy {k : Nat} {t : List UInt8} {h h' : Option UInt8} (hs : Xjg k t h) (hb : ∀ c, h' = some c → Xdk c = true) : Xjg k t h' := by
 rcases hs with ⟨hk, hc, ha, hst⟩ | ⟨hk, hne, ha, hst⟩ | ⟨hk, ht⟩ | ⟨hk, c, ht, hc, hst⟩
 · exact .inl ⟨hk, hc, ha, fun c e => (Xqp (hb c e)).1⟩
 · exact .inr (.inl ⟨hk, hne, ha, fun c e => (Xqp (hb c e)).2.1⟩)
 · exact .inr (.inr (.inl ⟨hk, ht⟩))
 · exact .inr (.inr (.inr ⟨hk, c, ht, hc, fun e => absurd rfl (Xqp (hb 61 e)).2.2⟩))
theorem Xfg {c : UInt8} {r : List UInt8} (p n : Nat) (h0 : Xdk c = false) (h1 : Xfk c = false) (h2 : Xcd c = false) (h3 : Xgf.contains c = false) : sc (c :: r) 0 p n = .err p 10 := by
 have hz := Xpo (r := r) |>.2 ⟨h1, h2, h3⟩
 have hk := (Xie (c :: r)).2 hz
 have he : Xba (Xao (c :: r)).1 ((c :: r).take (Xao (c :: r)).2) n = 10 := by rw [hk]; rfl
 rw [Yfc h0 (by rw [he]; decide), he]
theorem Xdf {k : Nat} {t r : List UInt8} (p n : Nat) (h : Xjg k t r.head?) : sc (t ++ r) 0 p n =
  if Xba k t n = 0 then (sc r 0 (p + t.length) (n + 1)).pre [⟨k, t, p⟩] else .err p (Xba k t n) := by
 obtain ⟨hne, hb⟩ := Xes h
 have hf := Xok h
 obtain ⟨c, u, rfl⟩ := List.exists_cons_of_ne_nil hne
 have h0 := Xsb (hb c (by simp))
 have hf' : Xao (c :: (u ++ r)) = (k, (c :: u).length) := hf
 have ht : (c :: (u ++ r)).take (c :: u).length = c :: u := List.take_left (l₁ := c :: u) (l₂ := r)
 have hd : (c :: (u ++ r)).drop (c :: u).length = r := List.drop_left (l₁ := c :: u) (l₂ := r)
 show sc (c :: (u ++ r)) 0 p n = _
 by_cases he : Xba k (c :: u) n = 0
 · rw [if_pos he, sc_tok h0 (by rw [hf', ht]; exact he), hf', ht, hd]
 · rw [if_neg he, Yfc h0 (by rw [hf', ht]; exact he), hf', ht]
theorem sc_ways (l : List UInt8) : l = [] ∨ (∃ c r, l = c :: r ∧ Xdk c = true) ∨ (∃ c r, l = c :: r ∧ Xdk c = false ∧ Xfk c = false ∧ Xcd c = false ∧ Xgf.contains c = false) ∨
  ∃ k t r, l = t ++ r ∧ Xjg k t r.head? := by
 cases l with
 | nil => exact .inl rfl
 | cons c r =>
   cases hb : Xdk c with
   | true => exact .inr (.inl ⟨c, r, rfl, hb⟩)
   | false =>
     by_cases hz : (Xao (c :: r)).2 = 0
     · exact .inr (.inr (.inl ⟨c, r, rfl, hb, Xpo.1 hz⟩))
     · obtain ⟨t, r', h1, _, h3⟩ := Xvi (l := c :: r) (k := (Xao (c :: r)).1) (z := (Xao (c :: r)).2) rfl hz
       exact .inr (.inr (.inr ⟨_, t, r', h1, h3⟩))
theorem Xik {P : List UInt8 → Prop} (h0 : P []) (h1 : ∀ c r, Xdk c = true → P r → P (c :: r))
  (h2 : ∀ c r, Xdk c = false → Xfk c = false → Xcd c = false → Xgf.contains c = false → P (c :: r))
  (h3 : ∀ k t r, Xjg k t r.head? → P r → P (t ++ r)) : ∀ l, P l := by
 have : ∀ n, ∀ l : List UInt8, l.length ≤ n → P l := by
  intro n
  induction n with
  | zero =>
    intro l hl
    obtain rfl : l = [] := List.eq_nil_of_length_eq_zero (by omega)
    exact h0
  | succ n ih =>
    intro l hl
    rcases sc_ways l with rfl | ⟨c, r, rfl, hb⟩ | ⟨c, r, rfl, a, b, d, e⟩ | ⟨k, t, r, rfl, hs⟩
    · exact h0
    · exact h1 c r hb (ih r (by simpa using hl))
    · exact h2 c r a b d e
    · have hne := (Xes hs).1
      refine h3 k t r hs (ih r ?_)
      cases t with
      | nil => exact absurd rfl hne
      | cons c u => simp at hl; omega
 exact fun l => this l.length l (Nat.le_refl _)
theorem Xpx {acc y : List Tok} {x : Res} (h : x.pre acc = .ok y) : ∃ z, x = .ok z ∧ y = acc ++ z := by
 cases x with
 | ok z => exact ⟨z, rfl, by simp only [Res.pre, Res.ok.injEq] at h; exact h.symm⟩
 | err p e => simp [Res.pre] at h
theorem Yen {acc : List Tok} {x : Res} {p e : Nat} (h : x.pre acc = .err p e) : x = .err p e := by
 cases x with
 | ok z => simp [Res.pre] at h
 | err q f => simpa [Res.pre] using h
theorem wrong_at {k : Nat} {t : List UInt8} {n : Nat} (h : Xba k t n = 0) (m : Nat) : Xba k t m = if 4096 ≤ m then 12 else 0 := by
 have hk := Xfr h
 unfold Xba at h ⊢
 rw [if_neg hk] at h ⊢
 by_cases hm : 4096 ≤ m
 · rw [if_pos (Or.inr hm), if_pos hm]
 · rw [if_neg hm]
   split at h
   · cases h
   · rename_i h1
     have g : ¬ ((k = 1 ∧ 16 < t.length) ∨ 4096 ≤ m) := fun a => a.elim (fun a => h1 (Or.inl a)) hm
     rw [if_neg g]
     exact h
theorem Yba {k : Nat} {t : List UInt8} {n e m : Nat} (h : Xba k t n = e) (he : e ≠ 0) : Xba k t (n + m) = e ∨ (0 < m ∧ Xba k t (n + m) = 12) := by
 rw [← h] at he ⊢
 clear h
 rcases Nat.eq_zero_or_pos m with rfl | hm
 · exact .inl rfl
 unfold Xba at he ⊢
 by_cases hk : k = 0
 · rw [if_pos hk, if_pos hk]; exact .inl rfl
 rw [if_neg hk] at he ⊢
 rw [if_neg hk]
 by_cases h1 : k = 1 ∧ 16 < t.length
 · rw [if_pos (Or.inl h1), if_pos (Or.inl h1)]; exact .inl rfl
 by_cases h2 : 4096 ≤ n + m
 · rw [if_pos (Or.inr h2)]; exact .inr ⟨hm, rfl⟩
 · have g1 : ¬ ((k = 1 ∧ 16 < t.length) ∨ 4096 ≤ n + m) := fun a => a.elim h1 h2
   have g2 : ¬ ((k = 1 ∧ 16 < t.length) ∨ 4096 ≤ n) := fun a => a.elim h1 (fun a => h2 (by omega))
   rw [if_neg g1, if_neg g2]
   exact .inl rfl
theorem Xuq : Xdk 32 = true := by decide
theorem Yfn {k : Nat} {t r b : List UInt8} (h : Xjg k t r.head?) : Xjg k t (r ++ 32 :: b).head? := by
 cases r with
 | nil => exact Xfy h (fun c e => (show (32 : UInt8) = c by simpa using e) ▸ Xuq)
 | cons d r => exact h
def Xrv (b : List UInt8) (p n : Nat) (len : Nat) (x y : Res) : Prop := match x with
 | .ok l => y = (sc b 0 (p + len + 1) (n + l.length)).pre l
 | .err q e => y = .err q e
theorem Xub (b : List UInt8) : ∀ l p n, Xrv b p n l.length (sc l 0 p n) (sc (l ++ 32 :: b) 0 p n) := by
 intro l
 refine Xik (P := fun l => ∀ p n, Xrv b p n l.length (sc l 0 p n) (sc (l ++ 32 :: b) 0 p n)) ?_ ?_ ?_ ?_ l
 · intro p n
   show sc (32 :: b) 0 p n = _
   rw [Xcv Xuq, Res.pre_nil]
   rfl
 · intro c r hb ih p n
   show Xrv b p n (r.length + 1) _ (sc (c :: (r ++ 32 :: b)) 0 p n)
   rw [Xcv hb, Xcv hb]
   have := ih (p + 1) n
   unfold Xrv at this ⊢
   rw [show p + (r.length + 1) + 1 = p + 1 + r.length + 1 from by omega]
   exact this
 · intro c r a b' d e p n
   show Xrv b p n (r.length + 1) _ (sc (c :: (r ++ 32 :: b)) 0 p n)
   rw [Xfg p n a b' d e, Xfg p n a b' d e]
   rfl
 · intro k t r hs ih p n
   rw [List.append_assoc, Xdf p n hs, Xdf p n (Yfn (b := b) hs)]
   by_cases he : Xba k t n = 0
   · rw [if_pos he, if_pos he]
     have := ih (p + t.length) (n + 1)
     revert this
     cases hx : sc r 0 (p + t.length) (n + 1) with
     | ok l =>
       intro this
       show _ = _
       have h2 : sc (r ++ 32 :: b) 0 (p + t.length) (n + 1) = (sc b 0 (p + t.length + r.length + 1) (n + 1 + l.length)).pre l := this
       rw [h2, Res.pre_pre, List.length_append, List.length_append]
       congr 2
       · omega
       · simp; omega
     | err q e =>
       intro this
       have h2 : sc (r ++ 32 :: b) 0 (p + t.length) (n + 1) = .err q e := this
       show _ = _
       rw [h2]
       rfl
   · rw [if_neg he, if_neg he]
     rfl
def Tok.on (d : Nat) (t : Tok) : Tok := ⟨t.kind, t.text, t.pl + d⟩
def OnPost (n d m : Nat) (x y : Res) : Prop := match x with
 | .ok l => (n + m + l.length ≤ 4096 → y = .ok (l.map (Tok.on d))) ∧ (4096 < n + m + l.length → n + m ≤ 4096 → ∃ q, y = .err q 12)
 | .err q e => y = .err (q + d) e ∨ (0 < m ∧ ∃ q', y = .err q' 12)
theorem sc_on (d m : Nat) : ∀ l p n, OnPost n d m (sc l 0 p n) (sc l 0 (p + d) (n + m)) := by
 intro l
 refine Xik (P := fun l => ∀ p n, OnPost n d m (sc l 0 p n) (sc l 0 (p + d) (n + m))) ?_ ?_ ?_ ?_ l
 · intro p n
   exact ⟨fun _ => rfl, fun h1 h2 => absurd h1 (by simp; omega)⟩
 · intro c r hb ih p n
   rw [Xcv hb, Xcv hb]
   have := ih (p + 1) n
   rw [show p + 1 + d = p + d + 1 from by omega] at this
   exact this
 · intro c r a b' e f p n
   rw [Xfg p n a b' e f, Xfg (p + d) (n + m) a b' e f]
   exact .inl rfl
 · intro k t r hs ih p n
   rw [Xdf p n hs, Xdf (p + d) (n + m) hs]
   by_cases he : Xba k t n = 0
   · rw [if_pos he, wrong_at he (n + m)]
     have := ih (p + t.length) (n + 1)
     rw [show p + t.length + d = p + d + t.length from by omega, show n + 1 + m = n + m + 1 from by omega] at this
     by_cases hm : 4096 ≤ n + m
     · rw [if_pos hm, if_neg (by decide)]
       have hn := Xis he
       cases hx : sc r 0 (p + t.length) (n + 1) with
       | ok l =>
         refine ⟨fun h => ?_, fun h1 h2 => ⟨_, rfl⟩⟩
         simp at h; omega
       | err q e => exact .inr ⟨by omega, _, rfl⟩
     · rw [if_neg hm, if_pos rfl]
       revert this
       cases hx : sc r 0 (p + t.length) (n + 1) with
       | ok l =>
         rintro ⟨h1, h2⟩
         refine ⟨fun h => ?_, fun h h' => ?_⟩
         · rw [h1 (by simp at h; omega)]
           rfl
         · obtain ⟨q, hq⟩ := h2 (by simp at h; omega) (by omega)
           exact ⟨q, by rw [hq]; rfl⟩
       | err q e =>
         rintro (h | ⟨h0, q', h⟩)
         · exact .inl (by rw [h]; rfl)
         · exact .inr ⟨h0, q', by rw [h]; rfl⟩
   · rw [if_neg he]
     rcases Yba (m := m) rfl he with h | ⟨h0, h⟩
     · rw [h, if_neg he]
       exact .inl rfl
     · rw [h, if_neg (by decide)]
       exact .inr ⟨h0, _, rfl⟩
def Xcf : List Tok → List Tok → Prop
 | [], [] => True
 | s :: x, t :: y => s.kind = t.kind ∧ s.text = t.text ∧ Xcf x y
 | _, _ => False
theorem Xcf.len : ∀ {x y : List Tok}, Xcf x y → x.length = y.length
 | [], [], _ => rfl
 | _ :: _, _ :: _, h => by rw [List.length_cons, List.length_cons, Xcf.len h.2.2]
def Xhy (s : List UInt8) : Nat → List Tok → Prop
 | _, [] => True
 | last, t :: y => last ≤ t.pl ∧ t.pl + t.text.length ≤ s.length ∧ (s.drop t.pl).take t.text.length = t.text ∧ t.text ≠ [] ∧ (∀ c ∈ t.text, 32 < c.toNat) ∧ Xhy s (t.pl + t.text.length) y
theorem Xhy.less {s : List UInt8} {a b : Nat} {y : List Tok} (h : Xhy s a y) (hb : b ≤ a) : Xhy s b y := by
 cases y with
 | nil => trivial
 | cons t y => exact ⟨by have := h.1; omega, h.2⟩
theorem Yff (s : List UInt8) : ∀ (l : List UInt8) (p n : Nat) (y : List Tok), s.drop p = l → sc l 0 p n = .ok y → Xhy s p y := by
 intro l
 refine Xik (P := fun l => ∀ (p n : Nat) (y : List Tok), s.drop p = l → sc l 0 p n = .ok y → Xhy s p y) ?_ ?_ ?_ ?_ l
 · intro p n y _ h
   have e : Res.ok [] = .ok y := h
   simp only [Res.ok.injEq] at e
   subst e
   trivial
 · intro c r hb ih p n y hd h
   rw [Xcv hb] at h
   have hd' : s.drop (p + 1) = r := by
    rw [← List.drop_drop, hd]; rfl
   exact (ih (p + 1) n y hd' h).less (by omega)
 · intro c r a b' e f p n y _ h
   rw [Xfg p n a b' e f] at h
   cases h
 · intro k t r hs ih p n y hd h
   rw [Xdf p n hs] at h
   by_cases he : Xba k t n = 0
   · rw [if_pos he] at h
     obtain ⟨z, hz, rfl⟩ := Xpx h
     obtain ⟨hne, hby⟩ := Xes hs
     have hd' : s.drop (p + t.length) = r := by
      rw [← List.drop_drop, hd, List.drop_left]
     have hlen : t.length + r.length = s.length - p := by rw [← List.length_append, ← hd, List.length_drop]
     have ht0 : 0 < t.length := List.length_pos_iff.2 hne
     exact ⟨Nat.le_refl _, by show p + t.length ≤ s.length; omega, by rw [hd]; exact List.take_left, hne, hby, ih _ _ _ hd' hz⟩
   · rw [if_neg he] at h
     cases h
theorem Yfe : ∀ (l : List UInt8) (p n q c : Nat), sc l 0 p n = .err q c → c ≠ 0 := by
 intro l
 refine Xik (P := fun l => ∀ (p n q c : Nat), sc l 0 p n = .err q c → c ≠ 0) ?_ ?_ ?_ ?_ l
 · intro p n q c h
   have e : Res.ok [] = .err q c := h
   cases e
 · intro d r hb ih p n q c h
   rw [Xcv hb] at h
   exact ih _ _ _ _ h
 · intro d r a b' e f p n q c h
   rw [Xfg p n a b' e f] at h
   simp only [Res.err.injEq] at h
   omega
 · intro k t r hs ih p n q c h
   rw [Xdf p n hs] at h
   by_cases he : Xba k t n = 0
   · rw [if_pos he] at h
     exact ih _ _ _ _ (Yen h)
   · rw [if_neg he] at h
     simp only [Res.err.injEq] at h
     omega
theorem sc_count : ∀ (l : List UInt8) (p n : Nat) (y : List Tok), sc l 0 p n = .ok y → n ≤ 4096 → n + y.length ≤ 4096 := by
 intro l
 refine Xik (P := fun l => ∀ (p n : Nat) (y : List Tok), sc l 0 p n = .ok y → n ≤ 4096 → n + y.length ≤ 4096) ?_ ?_ ?_ ?_ l
 · intro p n y h hn
   have e : Res.ok [] = .ok y := h
   simp only [Res.ok.injEq] at e
   subst e
   simpa using hn
 · intro d r hb ih p n y h hn
   rw [Xcv hb] at h
   exact ih _ _ _ h hn
 · intro d r a b' e f p n y h hn
   rw [Xfg p n a b' e f] at h
   cases h
 · intro k t r hs ih p n y h hn
   rw [Xdf p n hs] at h
   by_cases he : Xba k t n = 0
   · rw [if_pos he] at h
     obtain ⟨z, hz, rfl⟩ := Xpx h
     have := Xis he
     have := ih _ _ _ hz (by omega)
     rw [List.length_append, List.length_singleton]; omega
   · rw [if_neg he] at h
     cases h
theorem Xqf {l : List UInt8} {y : List Tok} (h : toks l = .ok y) : y.length ≤ 4096 := by
 unfold toks at h
 split at h
 · cases h
 · have := sc_count _ _ _ _ h (by omega)
   omega
theorem Xjr {l : List UInt8} {q c : Nat} (h : toks l = .err q c) : c ≠ 0 := by
 unfold toks at h
 split at h
 · simp only [Res.err.injEq] at h; omega
 · exact Yfe _ _ _ _ _ h
section
theorem sc_okT : ∀ (l : List UInt8) (p n : Nat) (y : List Tok), l.length ≤ 16384 → sc l 0 p n = .ok y → ∀ t ∈ y, Xqm t := by
 intro l
 refine Xik (P := fun l => ∀ (p n : Nat) (y : List Tok), l.length ≤ 16384 → sc l 0 p n = .ok y → ∀ t ∈ y, Xqm t) ?_ ?_ ?_ ?_ l
 · intro p n y hl h
   have e : Res.ok [] = .ok y := h
   simp only [Res.ok.injEq] at e
   subst e
   intro t ht; cases ht
 · intro d r hb ih p n y hl h
   rw [Xcv hb] at h
   exact ih _ _ _ (by simp at hl; omega) h
 · intro d r a b' e f p n y hl h
   rw [Xfg p n a b' e f] at h
   cases h
 · intro k t r hs ih p n y hl h
   rw [Xdf p n hs] at h
   by_cases he : Xba k t n = 0
   · rw [if_pos he] at h
     obtain ⟨z, hz, rfl⟩ := Xpx h
     intro u hu
     rcases List.mem_append.1 hu with hu | hu
     · obtain rfl : u = ⟨k, t, p⟩ := by simpa using hu
       have hk := Xfr he
       have hn := Xis he
       refine ⟨(Xes hs).1, by simp at hl ⊢; omega, fun h1 => ?_, fun h2 => ?_⟩
       · have hs0 : Xjg k t ([] : List UInt8).head? := Xfy hs nofun
         have hf := Xok hs0
         rw [List.append_nil] at hf
         have h1' : k = 1 := h1
         have h16 : t.length ≤ 16 := by
          by_cases h16 : t.length ≤ 16
          · exact h16
          · exfalso
            unfold Xba at he
            rw [if_neg hk, if_pos (.inl ⟨h1', by omega⟩)] at he
            cases he
         unfold Xfb
         rw [hf]
         exact decide_eq_true ⟨h1', rfl, h16⟩
       · have h2' : k = 2 := h2
         refine ⟨?_, ?_⟩
         · rcases hs with ⟨hk', -⟩ | ⟨-, -, ha, -⟩ | ⟨hk', -⟩ | ⟨hk', -⟩
           · exfalso; rw [h2'] at hk'; split at hk' <;> omega
           · exact ha
           · omega
           · omega
         · show t.length ≤ 18
           by_cases h18 : t.length ≤ 18
           · exact h18
           · exfalso
             unfold Xba at he
             rw [if_neg hk, if_neg (by omega), if_pos ⟨h2', .inl (by omega)⟩] at he
             cases he
     · exact ih _ _ _ (by simp at hl; omega) hz u hu
   · rw [if_neg he] at h
     cases h
theorem Xkq {l : List UInt8} {y : List Tok} (h : toks l = .ok y) : ∀ t ∈ y, Xqm t := by
 unfold toks at h
 split at h
 · cases h
 · exact sc_okT l 0 0 y (by omega) h
theorem Xgj {l : List UInt8} (h : l.length ≤ 16384) : toks l = sc l 0 0 0 := if_neg (by omega)
section
variable {a b : List UInt8}
theorem bl_ok (h : a.length + b.length ≤ 16383) {x : List Tok} (ha : toks a = .ok x) : toks (a ++ 32 :: b) = (sc b 0 (0 + (a.length + 1)) (0 + x.length)).pre x := by
 rw [Xgj (by omega)] at ha
 rw [Xgj (by simp; omega)]
 have := Xub b a 0 0
 rw [ha] at this
 have h2 : sc (a ++ 32 :: b) 0 0 0 = (sc b 0 (0 + a.length + 1) (0 + x.length)).pre x := this
 rw [h2, Nat.add_assoc]
theorem Ybh (h : a.length + b.length ≤ 16383) {x y : List Tok} (ha : toks a = .ok x) (hb : toks b = .ok y) (hl : x.length + y.length ≤ 4096) :
  toks (a ++ 32 :: b) = .ok (x ++ y.map (Tok.on (a.length + 1))) := by
 rw [bl_ok h ha]
 rw [Xgj (by omega)] at hb
 have := sc_on (a.length + 1) x.length b 0 0
 rw [hb] at this
 rw [this.1 (by omega)]
 rfl
theorem Ybi (h : a.length + b.length ≤ 16383) {x y : List Tok} (ha : toks a = .ok x) (hb : toks b = .ok y) (hl : ¬ x.length + y.length ≤ 4096) :
  ∃ q, toks (a ++ 32 :: b) = .err q 12 := by
 have hx := Xqf ha
 rw [bl_ok h ha]
 rw [Xgj (by omega)] at hb
 have := sc_on (a.length + 1) x.length b 0 0
 rw [hb] at this
 obtain ⟨q, hq⟩ := this.2 (by omega) (by omega)
 exact ⟨q, by rw [hq]; rfl⟩
end
end
end Go.Proofs.YtbckeljbpknbdaaGreatDoor
