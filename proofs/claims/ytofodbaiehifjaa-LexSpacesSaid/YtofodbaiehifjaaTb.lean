/- Two texts with a blank between, texts that are cut, tokens written again, blanks turned. -/
import Derived.Test.YtofodbaiehifjaaTa
set_option linter.unusedVariables false
namespace Go.Proofs.Ytofodbaiehifjaa

/-- strong induction over a text, by what it begins with -/
theorem sc_ind {P : List UInt8 → Prop} (h0 : P []) (h1 : ∀ c r, blankB c = true → P r → P (c :: r))
    (h2 : ∀ c r, blankB c = false → small c = false → digit c = false → signsL.contains c = false → P (c :: r))
    (h3 : ∀ k t r, Shape k t r.head? → P r → P (t ++ r)) : ∀ l, P l := by
  have : ∀ n, ∀ l : List UInt8, l.length ≤ n → P l := by
    intro n
    induction n with
    | zero =>
      intro l hl
      obtain rfl : l = [] := List.eq_nil_of_length_eq_zero (by omega)
      exact h0
    | succ n ih =>
      intro l hl
      rcases sc_ways l with rfl | ⟨c, r, rfl, hb⟩ | ⟨c, r, rfl, a, b, d, e⟩ | ⟨k, t, r, rfl, hs⟩
      · exact h0
      · exact h1 c r hb (ih r (by simpa using hl))
      · exact h2 c r a b d e
      · have hne := (shape_bytes hs).1
        refine h3 k t r hs (ih r ?_)
        cases t with
        | nil => exact absurd rfl hne
        | cons c u => simp at hl; omega
  exact fun l => this l.length l (Nat.le_refl _)

theorem pre_ok {acc y : List Tok} {x : Res} (h : x.pre acc = .ok y) : ∃ z, x = .ok z ∧ y = acc ++ z := by
  cases x with
  | ok z => exact ⟨z, rfl, by simp only [Res.pre, Res.ok.injEq] at h; exact h.symm⟩
  | err p e => simp [Res.pre] at h
theorem pre_err {acc : List Tok} {x : Res} {p e : Nat} (h : x.pre acc = .err p e) : x = .err p e := by
  cases x with
  | ok z => simp [Res.pre] at h
  | err q f => simpa [Res.pre] using h
theorem wrong_at {k : Nat} {t : List UInt8} {n : Nat} (h : wrongOf k t n = 0) (m : Nat) : wrongOf k t m = if 4096 ≤ m then 12 else 0 := by
  have hk := wrongOf_kind h
  unfold wrongOf at h ⊢
  rw [if_neg hk] at h ⊢
  by_cases hm : 4096 ≤ m
  · rw [if_pos (Or.inr hm), if_pos hm]
  · rw [if_neg hm]
    split at h
    · cases h
    · rename_i h1
      have g : ¬ ((k = 1 ∧ 16 < t.length) ∨ 4096 ≤ m) := fun a => a.elim (fun a => h1 (Or.inl a)) hm
      rw [if_neg g]
      exact h
theorem wrong_more {k : Nat} {t : List UInt8} {n e m : Nat} (h : wrongOf k t n = e) (he : e ≠ 0) : wrongOf k t (n + m) = e ∨ (0 < m ∧ wrongOf k t (n + m) = 12) := by
  rw [← h] at he ⊢
  clear h
  rcases Nat.eq_zero_or_pos m with rfl | hm
  · exact .inl rfl
  unfold wrongOf at he ⊢
  by_cases hk : k = 0
  · rw [if_pos hk, if_pos hk]; exact .inl rfl
  rw [if_neg hk] at he ⊢
  rw [if_neg hk]
  by_cases h1 : k = 1 ∧ 16 < t.length
  · rw [if_pos (Or.inl h1), if_pos (Or.inl h1)]; exact .inl rfl
  by_cases h2 : 4096 ≤ n + m
  · rw [if_pos (Or.inr h2)]; exact .inr ⟨hm, rfl⟩
  · have g1 : ¬ ((k = 1 ∧ 16 < t.length) ∨ 4096 ≤ n + m) := fun a => a.elim h1 h2
    have g2 : ¬ ((k = 1 ∧ 16 < t.length) ∨ 4096 ≤ n) := fun a => a.elim h1 (fun a => h2 (by omega))
    rw [if_neg g1, if_neg g2]
    exact .inl rfl

theorem blank32 : blankB 32 = true := by decide
theorem head_app {r b : List UInt8} {c : UInt8} : (r ++ c :: b).head? = some (match r with | [] => c | d :: _ => d) := by cases r <;> rfl
theorem shape_app {k : Nat} {t r b : List UInt8} (h : Shape k t r.head?) : Shape k t (r ++ 32 :: b).head? := by
  cases r with
  | nil => exact shape_soft h (fun c e => by have : (32 : UInt8) = c := by simpa using e
                                             rw [← this]; decide)
  | cons d r => exact h
/-- a text with a blank and another one behind it -/
def Behind (b : List UInt8) (p n : Nat) (len : Nat) (x y : Res) : Prop := match x with
  | .ok l => y = (sc b 0 (p + len + 1) (n + l.length)).pre l
  | .err q e => y = .err q e
theorem sc_behind (b : List UInt8) : ∀ l p n, Behind b p n l.length (sc l 0 p n) (sc (l ++ 32 :: b) 0 p n) := by
  intro l
  refine sc_ind (P := fun l => ∀ p n, Behind b p n l.length (sc l 0 p n) (sc (l ++ 32 :: b) 0 p n)) ?_ ?_ ?_ ?_ l
  · intro p n
    show sc (32 :: b) 0 p n = _
    rw [sc_blank blank32, Res.pre_nil]
    rfl
  · intro c r hb ih p n
    show Behind b p n (r.length + 1) _ (sc (c :: (r ++ 32 :: b)) 0 p n)
    rw [sc_blank hb, sc_blank hb]
    have := ih (p + 1) n
    unfold Behind at this ⊢
    rw [show p + (r.length + 1) + 1 = p + 1 + r.length + 1 from by omega]
    exact this
  · intro c r a b' d e p n
    show Behind b p n (r.length + 1) _ (sc (c :: (r ++ 32 :: b)) 0 p n)
    rw [sc_none p n a b' d e, sc_none p n a b' d e]
    rfl
  · intro k t r hs ih p n
    rw [List.append_assoc, sc_shape p n hs, sc_shape p n (shape_app (b := b) hs)]
    by_cases he : wrongOf k t n = 0
    · rw [if_pos he, if_pos he]
      have := ih (p + t.length) (n + 1)
      revert this
      cases hx : sc r 0 (p + t.length) (n + 1) with
      | ok l =>
        intro this
        show _ = _
        have h2 : sc (r ++ 32 :: b) 0 (p + t.length) (n + 1) = (sc b 0 (p + t.length + r.length + 1) (n + 1 + l.length)).pre l := this
        rw [h2, Res.pre_pre, List.length_append, List.length_append]
        congr 2
        · omega
        · simp; omega
      | err q e =>
        intro this
        have h2 : sc (r ++ 32 :: b) 0 (p + t.length) (n + 1) = .err q e := this
        show _ = _
        rw [h2]
        rfl
    · rw [if_neg he, if_neg he]
      rfl

/-- the same token so many places on -/
def Tok.on (d : Nat) (t : Tok) : Tok := ⟨t.kind, t.text, t.pl + d⟩
def OnPost (n d m : Nat) (x y : Res) : Prop := match x with
  | .ok l => (n + m + l.length ≤ 4096 → y = .ok (l.map (Tok.on d))) ∧ (4096 < n + m + l.length → n + m ≤ 4096 → ∃ q, y = .err q 12)
  | .err q e => y = .err (q + d) e ∨ (0 < m ∧ ∃ q', y = .err q' 12)
theorem sc_on (d m : Nat) : ∀ l p n, OnPost n d m (sc l 0 p n) (sc l 0 (p + d) (n + m)) := by
  intro l
  refine sc_ind (P := fun l => ∀ p n, OnPost n d m (sc l 0 p n) (sc l 0 (p + d) (n + m))) ?_ ?_ ?_ ?_ l
  · intro p n
    exact ⟨fun _ => rfl, fun h1 h2 => absurd h1 (by simp; omega)⟩
  · intro c r hb ih p n
    rw [sc_blank hb, sc_blank hb]
    have := ih (p + 1) n
    rw [show p + 1 + d = p + d + 1 from by omega] at this
    exact this
  · intro c r a b' e f p n
    rw [sc_none p n a b' e f, sc_none (p + d) (n + m) a b' e f]
    exact .inl rfl
  · intro k t r hs ih p n
    rw [sc_shape p n hs, sc_shape (p + d) (n + m) hs]
    by_cases he : wrongOf k t n = 0
    · rw [if_pos he, wrong_at he (n + m)]
      have := ih (p + t.length) (n + 1)
      rw [show p + t.length + d = p + d + t.length from by omega, show n + 1 + m = n + m + 1 from by omega] at this
      by_cases hm : 4096 ≤ n + m
      · rw [if_pos hm, if_neg (by decide)]
        have hn := wrongOf_n he
        cases hx : sc r 0 (p + t.length) (n + 1) with
        | ok l =>
          refine ⟨fun h => ?_, fun h1 h2 => ⟨_, rfl⟩⟩
          simp at h; omega
        | err q e => exact .inr ⟨by omega, _, rfl⟩
      · rw [if_neg hm, if_pos rfl]
        revert this
        cases hx : sc r 0 (p + t.length) (n + 1) with
        | ok l =>
          rintro ⟨h1, h2⟩
          refine ⟨fun h => ?_, fun h h' => ?_⟩
          · rw [h1 (by simp at h; omega)]
            rfl
          · obtain ⟨q, hq⟩ := h2 (by simp at h; omega) (by omega)
            exact ⟨q, by rw [hq]; rfl⟩
        | err q e =>
          rintro (h | ⟨h0, q', h⟩)
          · exact .inl (by rw [h]; rfl)
          · exact .inr ⟨h0, q', by rw [h]; rfl⟩
    · rw [if_neg he]
      rcases wrong_more (m := m) rfl he with h | ⟨h0, h⟩
      · rw [h, if_neg he]
        exact .inl rfl
      · rw [h, if_neg (by decide)]
        exact .inr ⟨h0, _, rfl⟩

/-- the tokens up to one are those of the text up to its end -/
theorem sc_cut : ∀ (l : List UInt8) (p n : Nat) (y : List Tok) (j : Nat) (hj : j < y.length), sc l 0 p n = .ok y →
    p ≤ y[j].pl ∧ y[j].pl + y[j].text.length ≤ p + l.length ∧ 0 < y[j].text.length ∧ sc (l.take (y[j].pl + y[j].text.length - p)) 0 p n = .ok (y.take (j + 1)) := by
  intro l
  refine sc_ind (P := fun l => ∀ (p n : Nat) (y : List Tok) (j : Nat) (hj : j < y.length), sc l 0 p n = .ok y →
    p ≤ y[j].pl ∧ y[j].pl + y[j].text.length ≤ p + l.length ∧ 0 < y[j].text.length ∧ sc (l.take (y[j].pl + y[j].text.length - p)) 0 p n = .ok (y.take (j + 1))) ?_ ?_ ?_ ?_ l
  · intro p n y j hj h
    have e : Res.ok [] = .ok y := h
    simp only [Res.ok.injEq] at e
    subst e
    exact absurd hj (by simp)
  · intro c r hb ih p n y j hj h
    rw [sc_blank hb] at h
    obtain ⟨h1, h2, h3, h4⟩ := ih (p + 1) n y j hj h
    refine ⟨by omega, by simp; omega, h3, ?_⟩
    obtain ⟨m, hm⟩ : ∃ m, y[j].pl + y[j].text.length - p = m + 1 := ⟨y[j].pl + y[j].text.length - (p + 1), by omega⟩
    rw [hm, List.take_succ_cons, sc_blank hb, ← h4]
    congr 2
    omega
  · intro c r a b' e f p n y j hj h
    rw [sc_none p n a b' e f] at h
    cases h
  · intro k t r hs ih p n y j hj h
    rw [sc_shape p n hs] at h
    by_cases he : wrongOf k t n = 0
    · rw [if_pos he] at h
      obtain ⟨z, hz, rfl⟩ := pre_ok h
      have hne := (shape_bytes hs).1
      have ht0 : 0 < t.length := List.length_pos_iff.2 hne
      cases j with
      | zero =>
        refine ⟨Nat.le_refl _, by simp, ht0, ?_⟩
        show sc ((t ++ r).take (p + t.length - p)) 0 p n = .ok [_]
        rw [show p + t.length - p = t.length from by omega, List.take_left]
        have h2 := sc_shape (r := []) p n (shape_soft (h' := ([] : List UInt8).head?) hs (by simp))
        rw [List.append_nil, if_pos he] at h2
        rw [h2]
        rfl
      | succ j =>
        have hj' : j < z.length := by simpa using hj
        obtain ⟨h1, h2, h3, h4⟩ := ih (p + t.length) (n + 1) z j hj' hz
        have e1 : ([⟨k, t, p⟩] ++ z)[j + 1] = z[j] := rfl
        rw [e1]
        refine ⟨by omega, by simp; omega, h3, ?_⟩
        obtain ⟨m, hm⟩ : ∃ m, m = z[j].pl + z[j].text.length - (p + t.length) := ⟨_, rfl⟩
        rw [← hm] at h4
        rw [show z[j].pl + z[j].text.length - p = t.length + m from by omega, List.take_length_add_append]
        have hs' : Shape k t (r.take m).head? := by
          cases m with
          | zero => exact shape_soft hs (by simp)
          | succ m =>
            cases r with
            | nil => exact hs
            | cons d r => exact hs
        rw [sc_shape p n hs', if_pos he, h4]
        rfl
    · rw [if_neg he] at h
      cases h

/-- tokens written out with a blank behind each -/
def flat (y : List Tok) : List UInt8 := y.flatMap fun t => t.text ++ [32]
theorem flat_cons (t : Tok) (y : List Tok) : flat (t :: y) = t.text ++ 32 :: flat y := by
  show (t.text ++ [32]) ++ flat y = _
  simp
theorem flat_app (x y : List Tok) : flat (x ++ y) = flat x ++ flat y := by simp [flat]
theorem flat_len : ∀ (l : List UInt8) (p n : Nat) (y : List Tok), sc l 0 p n = .ok y → (flat y).length ≤ 2 * l.length := by
  intro l
  refine sc_ind (P := fun l => ∀ (p n : Nat) (y : List Tok), sc l 0 p n = .ok y → (flat y).length ≤ 2 * l.length) ?_ ?_ ?_ ?_ l
  · intro p n y h
    have e : Res.ok [] = .ok y := h
    simp only [Res.ok.injEq] at e
    subst e
    simp [flat]
  · intro c r hb ih p n y h
    rw [sc_blank hb] at h
    have := ih _ _ _ h
    simp; omega
  · intro c r a b' e f p n y h
    rw [sc_none p n a b' e f] at h
    cases h
  · intro k t r hs ih p n y h
    rw [sc_shape p n hs] at h
    by_cases he : wrongOf k t n = 0
    · rw [if_pos he] at h
      obtain ⟨z, hz, rfl⟩ := pre_ok h
      have ht0 : 0 < t.length := List.length_pos_iff.2 (shape_bytes hs).1
      have := ih _ _ _ hz
      show (flat (⟨k, t, p⟩ :: z)).length ≤ _
      rw [flat_cons]
      simp; omega
    · rw [if_neg he] at h
      cases h
def Alike : List Tok → List Tok → Prop
  | [], [] => True
  | s :: x, t :: y => s.kind = t.kind ∧ s.text = t.text ∧ Alike x y
  | _, _ => False
theorem Alike.len : ∀ {x y : List Tok}, Alike x y → x.length = y.length
  | [], [], _ => rfl
  | _ :: _, _ :: _, h => by rw [List.length_cons, List.length_cons, Alike.len h.2.2]
theorem Alike.get : ∀ {x y : List Tok}, Alike x y → ∀ (j : Nat) (h : j < x.length) (h' : j < y.length), x[j].kind = y[j].kind ∧ x[j].text = y[j].text
  | [], [], _, j, h, _ => absurd h (by simp)
  | _ :: _, _ :: _, h, 0, _, _ => ⟨h.1, h.2.1⟩
  | _ :: x, _ :: y, h, j + 1, h1, h2 => Alike.get (x := x) (y := y) h.2.2 j (by simpa using h1) (by simpa using h2)
theorem sc_again : ∀ (l : List UInt8) (p n : Nat) (y : List Tok), sc l 0 p n = .ok y → ∀ q, ∃ z, sc (flat y) 0 q n = .ok z ∧ Alike y z := by
  intro l
  refine sc_ind (P := fun l => ∀ (p n : Nat) (y : List Tok), sc l 0 p n = .ok y → ∀ q, ∃ z, sc (flat y) 0 q n = .ok z ∧ Alike y z) ?_ ?_ ?_ ?_ l
  · intro p n y h q
    have e : Res.ok [] = .ok y := h
    simp only [Res.ok.injEq] at e
    subst e
    exact ⟨[], rfl, trivial⟩
  · intro c r hb ih p n y h
    rw [sc_blank hb] at h
    exact ih _ _ _ h
  · intro c r a b' e f p n y h
    rw [sc_none p n a b' e f] at h
    cases h
  · intro k t r hs ih p n y h q
    rw [sc_shape p n hs] at h
    by_cases he : wrongOf k t n = 0
    · rw [if_pos he] at h
      obtain ⟨z, hz, rfl⟩ := pre_ok h
      obtain ⟨z', hz', ha⟩ := ih _ _ _ hz (q + t.length + 1)
      refine ⟨⟨k, t, q⟩ :: z', ?_, rfl, rfl, ha⟩
      show sc (flat (⟨k, t, p⟩ :: z)) 0 q n = _
      rw [flat_cons]
      have hs' : Shape k t (32 :: flat z).head? := shape_soft hs (fun c e => by
        have : (32 : UInt8) = c := by simpa using e
        rw [← this]; decide)
      rw [sc_shape q n hs', if_pos he, sc_blank blank32, hz']
      rfl
    · rw [if_neg he] at h
      cases h

/-- where tokens stand -/
def Placed (s : List UInt8) : Nat → List Tok → Prop
  | _, [] => True
  | last, t :: y => last ≤ t.pl ∧ t.pl + t.text.length ≤ s.length ∧ (s.drop t.pl).take t.text.length = t.text ∧ t.text ≠ [] ∧ (∀ c ∈ t.text, 32 < c.toNat) ∧ Placed s (t.pl + t.text.length) y
theorem Placed.less {s : List UInt8} {a b : Nat} {y : List Tok} (h : Placed s a y) (hb : b ≤ a) : Placed s b y := by
  cases y with
  | nil => trivial
  | cons t y => exact ⟨by have := h.1; omega, h.2⟩
theorem sc_placed (s : List UInt8) : ∀ (l : List UInt8) (p n : Nat) (y : List Tok), s.drop p = l → sc l 0 p n = .ok y → Placed s p y := by
  intro l
  refine sc_ind (P := fun l => ∀ (p n : Nat) (y : List Tok), s.drop p = l → sc l 0 p n = .ok y → Placed s p y) ?_ ?_ ?_ ?_ l
  · intro p n y _ h
    have e : Res.ok [] = .ok y := h
    simp only [Res.ok.injEq] at e
    subst e
    trivial
  · intro c r hb ih p n y hd h
    rw [sc_blank hb] at h
    have hd' : s.drop (p + 1) = r := by
      rw [← List.drop_drop, hd]; rfl
    exact (ih (p + 1) n y hd' h).less (by omega)
  · intro c r a b' e f p n y _ h
    rw [sc_none p n a b' e f] at h
    cases h
  · intro k t r hs ih p n y hd h
    rw [sc_shape p n hs] at h
    by_cases he : wrongOf k t n = 0
    · rw [if_pos he] at h
      obtain ⟨z, hz, rfl⟩ := pre_ok h
      obtain ⟨hne, hby⟩ := shape_bytes hs
      have hd' : s.drop (p + t.length) = r := by
        rw [← List.drop_drop, hd, List.drop_left]
      have hlen : t.length + r.length = s.length - p := by rw [← List.length_append, ← hd, List.length_drop]
      have ht0 : 0 < t.length := List.length_pos_iff.2 hne
      exact ⟨Nat.le_refl _, by show p + t.length ≤ s.length; omega, by rw [hd]; exact List.take_left, hne, hby, ih _ _ _ hd' hz⟩
    · rw [if_neg he] at h
      cases h
def lastAt (y : List Tok) (i : Nat) : Nat := match i with
  | 0 => 0
  | i + 1 => (y[i]?.map fun t => t.pl + t.text.length).getD 0
theorem Placed.get {s : List UInt8} : ∀ {y : List Tok} {last : Nat}, Placed s last y → ∀ (i : Nat) (h : i < y.length),
    (if i = 0 then last else lastAt y i) ≤ y[i].pl ∧ y[i].pl + y[i].text.length ≤ s.length ∧ (s.drop y[i].pl).take y[i].text.length = y[i].text ∧ y[i].text ≠ [] ∧ ∀ c ∈ y[i].text, 32 < c.toNat
  | [], _, _, i, h => absurd h (by simp)
  | t :: y, last, hp, 0, _ => ⟨hp.1, hp.2.1, hp.2.2.1, hp.2.2.2.1, hp.2.2.2.2.1⟩
  | t :: y, last, hp, i + 1, h => by
    have ih := Placed.get hp.2.2.2.2.2 i (by simpa using h)
    refine ⟨?_, ih.2⟩
    have h1 := ih.1
    rw [if_neg (by omega)]
    cases i with
    | zero => exact h1
    | succ i => rw [if_neg (by omega)] at h1; exact h1

theorem sc_err_ne : ∀ (l : List UInt8) (p n q c : Nat), sc l 0 p n = .err q c → c ≠ 0 := by
  intro l
  refine sc_ind (P := fun l => ∀ (p n q c : Nat), sc l 0 p n = .err q c → c ≠ 0) ?_ ?_ ?_ ?_ l
  · intro p n q c h
    have e : Res.ok [] = .err q c := h
    cases e
  · intro d r hb ih p n q c h
    rw [sc_blank hb] at h
    exact ih _ _ _ _ h
  · intro d r a b' e f p n q c h
    rw [sc_none p n a b' e f] at h
    simp only [Res.err.injEq] at h
    omega
  · intro k t r hs ih p n q c h
    rw [sc_shape p n hs] at h
    by_cases he : wrongOf k t n = 0
    · rw [if_pos he] at h
      exact ih _ _ _ _ (pre_err h)
    · rw [if_neg he] at h
      simp only [Res.err.injEq] at h
      omega
theorem sc_err_at : ∀ (l : List UInt8) (p n q c : Nat), sc l 0 p n = .err q c → q ≤ p + l.length := by
  intro l
  refine sc_ind (P := fun l => ∀ (p n q c : Nat), sc l 0 p n = .err q c → q ≤ p + l.length) ?_ ?_ ?_ ?_ l
  · intro p n q c h
    have e : Res.ok [] = .err q c := h
    cases e
  · intro d r hb ih p n q c h
    rw [sc_blank hb] at h
    have := ih _ _ _ _ h
    rw [List.length_cons]; omega
  · intro d r a b' e f p n q c h
    rw [sc_none p n a b' e f] at h
    simp only [Res.err.injEq] at h
    omega
  · intro k t r hs ih p n q c h
    rw [sc_shape p n hs] at h
    rw [List.length_append]
    by_cases he : wrongOf k t n = 0
    · rw [if_pos he] at h
      have := ih _ _ _ _ (pre_err h)
      omega
    · rw [if_neg he] at h
      simp only [Res.err.injEq] at h
      omega
theorem toks_err_at {l : List UInt8} {q c : Nat} (h : toks l = .err q c) : q ≤ l.length := by
  unfold toks at h
  split at h
  · simp only [Res.err.injEq] at h; omega
  · have := sc_err_at _ _ _ _ _ h
    omega
theorem sc_count : ∀ (l : List UInt8) (p n : Nat) (y : List Tok), sc l 0 p n = .ok y → n ≤ 4096 → n + y.length ≤ 4096 := by
  intro l
  refine sc_ind (P := fun l => ∀ (p n : Nat) (y : List Tok), sc l 0 p n = .ok y → n ≤ 4096 → n + y.length ≤ 4096) ?_ ?_ ?_ ?_ l
  · intro p n y h hn
    have e : Res.ok [] = .ok y := h
    simp only [Res.ok.injEq] at e
    subst e
    simpa using hn
  · intro d r hb ih p n y h hn
    rw [sc_blank hb] at h
    exact ih _ _ _ h hn
  · intro d r a b' e f p n y h hn
    rw [sc_none p n a b' e f] at h
    cases h
  · intro k t r hs ih p n y h hn
    rw [sc_shape p n hs] at h
    by_cases he : wrongOf k t n = 0
    · rw [if_pos he] at h
      obtain ⟨z, hz, rfl⟩ := pre_ok h
      have := wrongOf_n he
      have := ih _ _ _ hz (by omega)
      rw [List.length_append, List.length_singleton]; omega
    · rw [if_neg he] at h
      cases h
theorem toks_count {l : List UInt8} {y : List Tok} (h : toks l = .ok y) : y.length ≤ 4096 := by
  unfold toks at h
  split at h
  · cases h
  · have := sc_count _ _ _ _ h (by omega)
    omega
theorem toks_err_ne {l : List UInt8} {q c : Nat} (h : toks l = .err q c) : c ≠ 0 := by
  unfold toks at h
  split at h
  · simp only [Res.err.injEq] at h; omega
  · exact sc_err_ne _ _ _ _ _ h

/-- the other blank -/
def turn (c : UInt8) : UInt8 := if c.toNat = 32 then 10 else if c.toNat = 10 then 32 else c
theorem turn_blank {c : UInt8} (h : blankB c = true) : blankB (turn c) = true := by
  unfold turn
  split
  · decide
  · split
    · decide
    · exact h
theorem turn_same {c : UInt8} (h : blankB c = false) : turn c = c := by
  unfold blankB at h
  rw [Bool.or_eq_false_iff, beq_eq_false_iff_ne, beq_eq_false_iff_ne] at h
  unfold turn
  rw [if_neg h.1, if_neg h.2]
theorem turn_text {t : List UInt8} (h : ∀ c ∈ t, 32 < c.toNat) : t.map turn = t := by
  induction t with
  | nil => rfl
  | cons c t ih =>
    rw [List.map_cons, turn_same (blank_not (h c (by simp))), ih (fun d hd => h d (by simp [hd]))]
theorem shape_turn {k : Nat} {t r : List UInt8} (h : Shape k t r.head?) : Shape k t (r.map turn).head? := by
  cases r with
  | nil => exact h
  | cons c r =>
    cases hb : blankB c with
    | true => exact shape_soft h (fun d e => by
        have : turn c = d := by simpa using e
        rw [← this]; exact turn_blank hb)
    | false =>
      rw [List.map_cons, turn_same hb]
      exact h
theorem sc_turn : ∀ (l : List UInt8) (p n : Nat), sc (l.map turn) 0 p n = sc l 0 p n := by
  intro l
  refine sc_ind (P := fun l => ∀ (p n : Nat), sc (l.map turn) 0 p n = sc l 0 p n) ?_ ?_ ?_ ?_ l
  · intro p n; rfl
  · intro c r hb ih p n
    rw [List.map_cons, sc_blank hb, sc_blank (turn_blank hb), ih]
  · intro c r a b' e f p n
    rw [List.map_cons, turn_same a, sc_none p n a b' e f, sc_none p n a b' e f]
  · intro k t r hs ih p n
    rw [List.map_append, turn_text (shape_bytes hs).2, sc_shape p n hs, sc_shape p n (shape_turn hs), ih]
theorem toks_turn (l : List UInt8) : toks (l.map turn) = toks l := by
  unfold toks
  rw [List.length_map, sc_turn]

end Go.Proofs.Ytofodbaiehifjaa
