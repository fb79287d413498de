/- Tb; Vb; Xp -/
import Derived.Test.YtmbkjabjcphkbaaDoorZb4
import Derived.Test.YtmbkjabjcphkbaaDoorZa2
import Derived.Test.YtmbkjabjcphkbaaDoorZa0
section
/- Two texts with a blank between, texts that are cut, tokens written again, blanks turned. -/
set_option linter.unusedVariables false
namespace Go.Proofs.YtmbkjabjcphkbaaDoor

/-- strong induction over a text, by what it begins with -/
theorem sc_ind {P : List UInt8 → Prop} (h0 : P []) (h1 : ∀ c r, blankB c = true → P r → P (c :: r))
    (h2 : ∀ c r, blankB c = false → small c = false → digit c = false → signsL.contains c = false → P (c :: r))
    (h3 : ∀ k t r, Shape k t r.head? → P r → P (t ++ r)) : ∀ l, P l := by
  have : ∀ n, ∀ l : List UInt8, l.length ≤ n → P l := by
    intro n
    induction n with
    | zero =>
      intro l hl
      obtain rfl : l = [] := List.eq_nil_of_length_eq_zero (by omega)
      exact h0
    | succ n ih =>
      intro l hl
      rcases sc_ways l with rfl | ⟨c, r, rfl, hb⟩ | ⟨c, r, rfl, a, b, d, e⟩ | ⟨k, t, r, rfl, hs⟩
      · exact h0
      · exact h1 c r hb (ih r (by simpa using hl))
      · exact h2 c r a b d e
      · have hne := (shape_bytes hs).1
        refine h3 k t r hs (ih r ?_)
        cases t with
        | nil => exact absurd rfl hne
        | cons c u => simp at hl; omega
  exact fun l => this l.length l (Nat.le_refl _)

theorem pre_ok {acc y : List Tok} {x : Res} (h : x.pre acc = .ok y) : ∃ z, x = .ok z ∧ y = acc ++ z := by
  cases x with
  | ok z => exact ⟨z, rfl, by simp only [Res.pre, Res.ok.injEq] at h; exact h.symm⟩
  | err p e => simp [Res.pre] at h
theorem pre_err {acc : List Tok} {x : Res} {p e : Nat} (h : x.pre acc = .err p e) : x = .err p e := by
  cases x with
  | ok z => simp [Res.pre] at h
  | err q f => simpa [Res.pre] using h
theorem wrong_at {k : Nat} {t : List UInt8} {n : Nat} (h : wrongOf k t n = 0) (m : Nat) : wrongOf k t m = if 4096 ≤ m then 12 else 0 := by
  have hk := wrongOf_kind h
  unfold wrongOf at h ⊢
  rw [if_neg hk] at h ⊢
  by_cases hm : 4096 ≤ m
  · rw [if_pos (Or.inr hm), if_pos hm]
  · rw [if_neg hm]
    split at h
    · cases h
    · rename_i h1
      have g : ¬ ((k = 1 ∧ 16 < t.length) ∨ 4096 ≤ m) := fun a => a.elim (fun a => h1 (Or.inl a)) hm
      rw [if_neg g]
      exact h
theorem wrong_more {k : Nat} {t : List UInt8} {n e m : Nat} (h : wrongOf k t n = e) (he : e ≠ 0) : wrongOf k t (n + m) = e ∨ (0 < m ∧ wrongOf k t (n + m) = 12) := by
  rw [← h] at he ⊢
  clear h
  rcases Nat.eq_zero_or_pos m with rfl | hm
  · exact .inl rfl
  unfold wrongOf at he ⊢
  by_cases hk : k = 0
  · rw [if_pos hk, if_pos hk]; exact .inl rfl
  rw [if_neg hk] at he ⊢
  rw [if_neg hk]
  by_cases h1 : k = 1 ∧ 16 < t.length
  · rw [if_pos (Or.inl h1), if_pos (Or.inl h1)]; exact .inl rfl
  by_cases h2 : 4096 ≤ n + m
  · rw [if_pos (Or.inr h2)]; exact .inr ⟨hm, rfl⟩
  · have g1 : ¬ ((k = 1 ∧ 16 < t.length) ∨ 4096 ≤ n + m) := fun a => a.elim h1 h2
    have g2 : ¬ ((k = 1 ∧ 16 < t.length) ∨ 4096 ≤ n) := fun a => a.elim h1 (fun a => h2 (by omega))
    rw [if_neg g1, if_neg g2]
    exact .inl rfl

theorem blank32 : blankB 32 = true := by decide
theorem head_app {r b : List UInt8} {c : UInt8} : (r ++ c :: b).head? = some (match r with | [] => c | d :: _ => d) := by cases r <;> rfl
theorem shape_app {k : Nat} {t r b : List UInt8} (h : Shape k t r.head?) : Shape k t (r ++ 32 :: b).head? := by
  cases r with
  | nil => exact shape_soft h (fun c e => by have : (32 : UInt8) = c := by simpa using e
                                             rw [← this]; decide)
  | cons d r => exact h
/-- a text with a blank and another one behind it -/
def Behind (b : List UInt8) (p n : Nat) (len : Nat) (x y : Res) : Prop := match x with
  | .ok l => y = (sc b 0 (p + len + 1) (n + l.length)).pre l
  | .err q e => y = .err q e
theorem sc_behind (b : List UInt8) : ∀ l p n, Behind b p n l.length (sc l 0 p n) (sc (l ++ 32 :: b) 0 p n) := by
  intro l
  refine sc_ind (P := fun l => ∀ p n, Behind b p n l.length (sc l 0 p n) (sc (l ++ 32 :: b) 0 p n)) ?_ ?_ ?_ ?_ l
  · intro p n
    show sc (32 :: b) 0 p n = _
    rw [sc_blank blank32, Res.pre_nil]
    rfl
  · intro c r hb ih p n
    show Behind b p n (r.length + 1) _ (sc (c :: (r ++ 32 :: b)) 0 p n)
    rw [sc_blank hb, sc_blank hb]
    have := ih (p + 1) n
    unfold Behind at this ⊢
    rw [show p + (r.length + 1) + 1 = p + 1 + r.length + 1 from by omega]
    exact this
  · intro c r a b' d e p n
    show Behind b p n (r.length + 1) _ (sc (c :: (r ++ 32 :: b)) 0 p n)
    rw [sc_none p n a b' d e, sc_none p n a b' d e]
    rfl
  · intro k t r hs ih p n
    rw [List.append_assoc, sc_shape p n hs, sc_shape p n (shape_app (b := b) hs)]
    by_cases he : wrongOf k t n = 0
    · rw [if_pos he, if_pos he]
      have := ih (p + t.length) (n + 1)
      revert this
      cases hx : sc r 0 (p + t.length) (n + 1) with
      | ok l =>
        intro this
        show _ = _
        have h2 : sc (r ++ 32 :: b) 0 (p + t.length) (n + 1) = (sc b 0 (p + t.length + r.length + 1) (n + 1 + l.length)).pre l := this
        rw [h2, Res.pre_pre, List.length_append, List.length_append]
        congr 2
        · omega
        · simp; omega
      | err q e =>
        intro this
        have h2 : sc (r ++ 32 :: b) 0 (p + t.length) (n + 1) = .err q e := this
        show _ = _
        rw [h2]
        rfl
    · rw [if_neg he, if_neg he]
      rfl

/-- the same token so many places on -/
def Tok.on (d : Nat) (t : Tok) : Tok := ⟨t.kind, t.text, t.pl + d⟩
def OnPost (n d m : Nat) (x y : Res) : Prop := match x with
  | .ok l => (n + m + l.length ≤ 4096 → y = .ok (l.map (Tok.on d))) ∧ (4096 < n + m + l.length → n + m ≤ 4096 → ∃ q, y = .err q 12)
  | .err q e => y = .err (q + d) e ∨ (0 < m ∧ ∃ q', y = .err q' 12)
theorem sc_on (d m : Nat) : ∀ l p n, OnPost n d m (sc l 0 p n) (sc l 0 (p + d) (n + m)) := by
  intro l
  refine sc_ind (P := fun l => ∀ p n, OnPost n d m (sc l 0 p n) (sc l 0 (p + d) (n + m))) ?_ ?_ ?_ ?_ l
  · intro p n
    exact ⟨fun _ => rfl, fun h1 h2 => absurd h1 (by simp; omega)⟩
  · intro c r hb ih p n
    rw [sc_blank hb, sc_blank hb]
    have := ih (p + 1) n
    rw [show p + 1 + d = p + d + 1 from by omega] at this
    exact this
  · intro c r a b' e f p n
    rw [sc_none p n a b' e f, sc_none (p + d) (n + m) a b' e f]
    exact .inl rfl
  · intro k t r hs ih p n
    rw [sc_shape p n hs, sc_shape (p + d) (n + m) hs]
    by_cases he : wrongOf k t n = 0
    · rw [if_pos he, wrong_at he (n + m)]
      have := ih (p + t.length) (n + 1)
      rw [show p + t.length + d = p + d + t.length from by omega, show n + 1 + m = n + m + 1 from by omega] at this
      by_cases hm : 4096 ≤ n + m
      · rw [if_pos hm, if_neg (by decide)]
        have hn := wrongOf_n he
        cases hx : sc r 0 (p + t.length) (n + 1) with
        | ok l =>
          refine ⟨fun h => ?_, fun h1 h2 => ⟨_, rfl⟩⟩
          simp at h; omega
        | err q e => exact .inr ⟨by omega, _, rfl⟩
      · rw [if_neg hm, if_pos rfl]
        revert this
        cases hx : sc r 0 (p + t.length) (n + 1) with
        | ok l =>
          rintro ⟨h1, h2⟩
          refine ⟨fun h => ?_, fun h h' => ?_⟩
          · rw [h1 (by simp at h; omega)]
            rfl
          · obtain ⟨q, hq⟩ := h2 (by simp at h; omega) (by omega)
            exact ⟨q, by rw [hq]; rfl⟩
        | err q e =>
          rintro (h | ⟨h0, q', h⟩)
          · exact .inl (by rw [h]; rfl)
          · exact .inr ⟨h0, q', by rw [h]; rfl⟩
    · rw [if_neg he]
      rcases wrong_more (m := m) rfl he with h | ⟨h0, h⟩
      · rw [h, if_neg he]
        exact .inl rfl
      · rw [h, if_neg (by decide)]
        exact .inr ⟨h0, _, rfl⟩

/-- the tokens up to one are those of the text up to its end -/
theorem sc_cut : ∀ (l : List UInt8) (p n : Nat) (y : List Tok) (j : Nat) (hj : j < y.length), sc l 0 p n = .ok y →
    p ≤ y[j].pl ∧ y[j].pl + y[j].text.length ≤ p + l.length ∧ 0 < y[j].text.length ∧ sc (l.take (y[j].pl + y[j].text.length - p)) 0 p n = .ok (y.take (j + 1)) := by
  intro l
  refine sc_ind (P := fun l => ∀ (p n : Nat) (y : List Tok) (j : Nat) (hj : j < y.length), sc l 0 p n = .ok y →
    p ≤ y[j].pl ∧ y[j].pl + y[j].text.length ≤ p + l.length ∧ 0 < y[j].text.length ∧ sc (l.take (y[j].pl + y[j].text.length - p)) 0 p n = .ok (y.take (j + 1))) ?_ ?_ ?_ ?_ l
  · intro p n y j hj h
    have e : Res.ok [] = .ok y := h
    simp only [Res.ok.injEq] at e
    subst e
    exact absurd hj (by simp)
  · intro c r hb ih p n y j hj h
    rw [sc_blank hb] at h
    obtain ⟨h1, h2, h3, h4⟩ := ih (p + 1) n y j hj h
    refine ⟨by omega, by simp; omega, h3, ?_⟩
    obtain ⟨m, hm⟩ : ∃ m, y[j].pl + y[j].text.length - p = m + 1 := ⟨y[j].pl + y[j].text.length - (p + 1), by omega⟩
    rw [hm, List.take_succ_cons, sc_blank hb, ← h4]
    congr 2
    omega
  · intro c r a b' e f p n y j hj h
    rw [sc_none p n a b' e f] at h
    cases h
  · intro k t r hs ih p n y j hj h
    rw [sc_shape p n hs] at h
    by_cases he : wrongOf k t n = 0
    · rw [if_pos he] at h
      obtain ⟨z, hz, rfl⟩ := pre_ok h
      have hne := (shape_bytes hs).1
      have ht0 : 0 < t.length := List.length_pos_iff.2 hne
      cases j with
      | zero =>
        refine ⟨Nat.le_refl _, by simp, ht0, ?_⟩
        show sc ((t ++ r).take (p + t.length - p)) 0 p n = .ok [_]
        rw [show p + t.length - p = t.length from by omega, List.take_left]
        have h2 := sc_shape (r := []) p n (shape_soft (h' := ([] : List UInt8).head?) hs (by simp))
        rw [List.append_nil, if_pos he] at h2
        rw [h2]
        rfl
      | succ j =>
        have hj' : j < z.length := by simpa using hj
        obtain ⟨h1, h2, h3, h4⟩ := ih (p + t.length) (n + 1) z j hj' hz
        have e1 : ([⟨k, t, p⟩] ++ z)[j + 1] = z[j] := rfl
        rw [e1]
        refine ⟨by omega, by simp; omega, h3, ?_⟩
        obtain ⟨m, hm⟩ : ∃ m, m = z[j].pl + z[j].text.length - (p + t.length) := ⟨_, rfl⟩
        rw [← hm] at h4
        rw [show z[j].pl + z[j].text.length - p = t.length + m from by omega, List.take_length_add_append]
        have hs' : Shape k t (r.take m).head? := by
          cases m with
          | zero => exact shape_soft hs (by simp)
          | succ m =>
            cases r with
            | nil => exact hs
            | cons d r => exact hs
        rw [sc_shape p n hs', if_pos he, h4]
        rfl
    · rw [if_neg he] at h
      cases h

/-- tokens written out with a blank behind each -/
def flat (y : List Tok) : List UInt8 := y.flatMap fun t => t.text ++ [32]
theorem flat_cons (t : Tok) (y : List Tok) : flat (t :: y) = t.text ++ 32 :: flat y := by
  show (t.text ++ [32]) ++ flat y = _
  simp
theorem flat_app (x y : List Tok) : flat (x ++ y) = flat x ++ flat y := by simp [flat]
theorem flat_len : ∀ (l : List UInt8) (p n : Nat) (y : List Tok), sc l 0 p n = .ok y → (flat y).length ≤ 2 * l.length := by
  intro l
  refine sc_ind (P := fun l => ∀ (p n : Nat) (y : List Tok), sc l 0 p n = .ok y → (flat y).length ≤ 2 * l.length) ?_ ?_ ?_ ?_ l
  · intro p n y h
    have e : Res.ok [] = .ok y := h
    simp only [Res.ok.injEq] at e
    subst e
    simp [flat]
  · intro c r hb ih p n y h
    rw [sc_blank hb] at h
    have := ih _ _ _ h
    simp; omega
  · intro c r a b' e f p n y h
    rw [sc_none p n a b' e f] at h
    cases h
  · intro k t r hs ih p n y h
    rw [sc_shape p n hs] at h
    by_cases he : wrongOf k t n = 0
    · rw [if_pos he] at h
      obtain ⟨z, hz, rfl⟩ := pre_ok h
      have ht0 : 0 < t.length := List.length_pos_iff.2 (shape_bytes hs).1
      have := ih _ _ _ hz
      show (flat (⟨k, t, p⟩ :: z)).length ≤ _
      rw [flat_cons]
      simp; omega
    · rw [if_neg he] at h
      cases h
def Alike : List Tok → List Tok → Prop
  | [], [] => True
  | s :: x, t :: y => s.kind = t.kind ∧ s.text = t.text ∧ Alike x y
  | _, _ => False
theorem Alike.len : ∀ {x y : List Tok}, Alike x y → x.length = y.length
  | [], [], _ => rfl
  | _ :: _, _ :: _, h => by rw [List.length_cons, List.length_cons, Alike.len h.2.2]
theorem Alike.get : ∀ {x y : List Tok}, Alike x y → ∀ (j : Nat) (h : j < x.length) (h' : j < y.length), x[j].kind = y[j].kind ∧ x[j].text = y[j].text
  | [], [], _, j, h, _ => absurd h (by simp)
  | _ :: _, _ :: _, h, 0, _, _ => ⟨h.1, h.2.1⟩
  | _ :: x, _ :: y, h, j + 1, h1, h2 => Alike.get (x := x) (y := y) h.2.2 j (by simpa using h1) (by simpa using h2)
theorem sc_again : ∀ (l : List UInt8) (p n : Nat) (y : List Tok), sc l 0 p n = .ok y → ∀ q, ∃ z, sc (flat y) 0 q n = .ok z ∧ Alike y z := by
  intro l
  refine sc_ind (P := fun l => ∀ (p n : Nat) (y : List Tok), sc l 0 p n = .ok y → ∀ q, ∃ z, sc (flat y) 0 q n = .ok z ∧ Alike y z) ?_ ?_ ?_ ?_ l
  · intro p n y h q
    have e : Res.ok [] = .ok y := h
    simp only [Res.ok.injEq] at e
    subst e
    exact ⟨[], rfl, trivial⟩
  · intro c r hb ih p n y h
    rw [sc_blank hb] at h
    exact ih _ _ _ h
  · intro c r a b' e f p n y h
    rw [sc_none p n a b' e f] at h
    cases h
  · intro k t r hs ih p n y h q
    rw [sc_shape p n hs] at h
    by_cases he : wrongOf k t n = 0
    · rw [if_pos he] at h
      obtain ⟨z, hz, rfl⟩ := pre_ok h
      obtain ⟨z', hz', ha⟩ := ih _ _ _ hz (q + t.length + 1)
      refine ⟨⟨k, t, q⟩ :: z', ?_, rfl, rfl, ha⟩
      show sc (flat (⟨k, t, p⟩ :: z)) 0 q n = _
      rw [flat_cons]
      have hs' : Shape k t (32 :: flat z).head? := shape_soft hs (fun c e => by
        have : (32 : UInt8) = c := by simpa using e
        rw [← this]; decide)
      rw [sc_shape q n hs', if_pos he, sc_blank blank32, hz']
      rfl
    · rw [if_neg he] at h
      cases h

/-- where tokens stand -/
def Placed (s : List UInt8) : Nat → List Tok → Prop
  | _, [] => True
  | last, t :: y => last ≤ t.pl ∧ t.pl + t.text.length ≤ s.length ∧ (s.drop t.pl).take t.text.length = t.text ∧ t.text ≠ [] ∧ (∀ c ∈ t.text, 32 < c.toNat) ∧ Placed s (t.pl + t.text.length) y
theorem Placed.less {s : List UInt8} {a b : Nat} {y : List Tok} (h : Placed s a y) (hb : b ≤ a) : Placed s b y := by
  cases y with
  | nil => trivial
  | cons t y => exact ⟨by have := h.1; omega, h.2⟩
theorem sc_placed (s : List UInt8) : ∀ (l : List UInt8) (p n : Nat) (y : List Tok), s.drop p = l → sc l 0 p n = .ok y → Placed s p y := by
  intro l
  refine sc_ind (P := fun l => ∀ (p n : Nat) (y : List Tok), s.drop p = l → sc l 0 p n = .ok y → Placed s p y) ?_ ?_ ?_ ?_ l
  · intro p n y _ h
    have e : Res.ok [] = .ok y := h
    simp only [Res.ok.injEq] at e
    subst e
    trivial
  · intro c r hb ih p n y hd h
    rw [sc_blank hb] at h
    have hd' : s.drop (p + 1) = r := by
      rw [← List.drop_drop, hd]; rfl
    exact (ih (p + 1) n y hd' h).less (by omega)
  · intro c r a b' e f p n y _ h
    rw [sc_none p n a b' e f] at h
    cases h
  · intro k t r hs ih p n y hd h
    rw [sc_shape p n hs] at h
    by_cases he : wrongOf k t n = 0
    · rw [if_pos he] at h
      obtain ⟨z, hz, rfl⟩ := pre_ok h
      obtain ⟨hne, hby⟩ := shape_bytes hs
      have hd' : s.drop (p + t.length) = r := by
        rw [← List.drop_drop, hd, List.drop_left]
      have hlen : t.length + r.length = s.length - p := by rw [← List.length_append, ← hd, List.length_drop]
      have ht0 : 0 < t.length := List.length_pos_iff.2 hne
      exact ⟨Nat.le_refl _, by show p + t.length ≤ s.length; omega, by rw [hd]; exact List.take_left, hne, hby, ih _ _ _ hd' hz⟩
    · rw [if_neg he] at h
      cases h
def lastAt (y : List Tok) (i : Nat) : Nat := match i with
  | 0 => 0
  | i + 1 => (y[i]?.map fun t => t.pl + t.text.length).getD 0
theorem Placed.get {s : List UInt8} : ∀ {y : List Tok} {last : Nat}, Placed s last y → ∀ (i : Nat) (h : i < y.length),
    (if i = 0 then last else lastAt y i) ≤ y[i].pl ∧ y[i].pl + y[i].text.length ≤ s.length ∧ (s.drop y[i].pl).take y[i].text.length = y[i].text ∧ y[i].text ≠ [] ∧ ∀ c ∈ y[i].text, 32 < c.toNat
  | [], _, _, i, h => absurd h (by simp)
  | t :: y, last, hp, 0, _ => ⟨hp.1, hp.2.1, hp.2.2.1, hp.2.2.2.1, hp.2.2.2.2.1⟩
  | t :: y, last, hp, i + 1, h => by
    have ih := Placed.get hp.2.2.2.2.2 i (by simpa using h)
    refine ⟨?_, ih.2⟩
    have h1 := ih.1
    rw [if_neg (by omega)]
    cases i with
    | zero => exact h1
    | succ i => rw [if_neg (by omega)] at h1; exact h1

theorem sc_err_ne : ∀ (l : List UInt8) (p n q c : Nat), sc l 0 p n = .err q c → c ≠ 0 := by
  intro l
  refine sc_ind (P := fun l => ∀ (p n q c : Nat), sc l 0 p n = .err q c → c ≠ 0) ?_ ?_ ?_ ?_ l
  · intro p n q c h
    have e : Res.ok [] = .err q c := h
    cases e
  · intro d r hb ih p n q c h
    rw [sc_blank hb] at h
    exact ih _ _ _ _ h
  · intro d r a b' e f p n q c h
    rw [sc_none p n a b' e f] at h
    simp only [Res.err.injEq] at h
    omega
  · intro k t r hs ih p n q c h
    rw [sc_shape p n hs] at h
    by_cases he : wrongOf k t n = 0
    · rw [if_pos he] at h
      exact ih _ _ _ _ (pre_err h)
    · rw [if_neg he] at h
      simp only [Res.err.injEq] at h
      omega
theorem sc_err_at : ∀ (l : List UInt8) (p n q c : Nat), sc l 0 p n = .err q c → q ≤ p + l.length := by
  intro l
  refine sc_ind (P := fun l => ∀ (p n q c : Nat), sc l 0 p n = .err q c → q ≤ p + l.length) ?_ ?_ ?_ ?_ l
  · intro p n q c h
    have e : Res.ok [] = .err q c := h
    cases e
  · intro d r hb ih p n q c h
    rw [sc_blank hb] at h
    have := ih _ _ _ _ h
    rw [List.length_cons]; omega
  · intro d r a b' e f p n q c h
    rw [sc_none p n a b' e f] at h
    simp only [Res.err.injEq] at h
    omega
  · intro k t r hs ih p n q c h
    rw [sc_shape p n hs] at h
    rw [List.length_append]
    by_cases he : wrongOf k t n = 0
    · rw [if_pos he] at h
      have := ih _ _ _ _ (pre_err h)
      omega
    · rw [if_neg he] at h
      simp only [Res.err.injEq] at h
      omega
theorem toks_err_at {l : List UInt8} {q c : Nat} (h : toks l = .err q c) : q ≤ l.length := by
  unfold toks at h
  split at h
  · simp only [Res.err.injEq] at h; omega
  · have := sc_err_at _ _ _ _ _ h
    omega
theorem sc_count : ∀ (l : List UInt8) (p n : Nat) (y : List Tok), sc l 0 p n = .ok y → n ≤ 4096 → n + y.length ≤ 4096 := by
  intro l
  refine sc_ind (P := fun l => ∀ (p n : Nat) (y : List Tok), sc l 0 p n = .ok y → n ≤ 4096 → n + y.length ≤ 4096) ?_ ?_ ?_ ?_ l
  · intro p n y h hn
    have e : Res.ok [] = .ok y := h
    simp only [Res.ok.injEq] at e
    subst e
    simpa using hn
  · intro d r hb ih p n y h hn
    rw [sc_blank hb] at h
    exact ih _ _ _ h hn
  · intro d r a b' e f p n y h hn
    rw [sc_none p n a b' e f] at h
    cases h
  · intro k t r hs ih p n y h hn
    rw [sc_shape p n hs] at h
    by_cases he : wrongOf k t n = 0
    · rw [if_pos he] at h
      obtain ⟨z, hz, rfl⟩ := pre_ok h
      have := wrongOf_n he
      have := ih _ _ _ hz (by omega)
      rw [List.length_append, List.length_singleton]; omega
    · rw [if_neg he] at h
      cases h
theorem toks_count {l : List UInt8} {y : List Tok} (h : toks l = .ok y) : y.length ≤ 4096 := by
  unfold toks at h
  split at h
  · cases h
  · have := sc_count _ _ _ _ h (by omega)
    omega
theorem toks_err_ne {l : List UInt8} {q c : Nat} (h : toks l = .err q c) : c ≠ 0 := by
  unfold toks at h
  split at h
  · simp only [Res.err.injEq] at h; omega
  · exact sc_err_ne _ _ _ _ _ h

/-- the other blank -/
def turn (c : UInt8) : UInt8 := if c.toNat = 32 then 10 else if c.toNat = 10 then 32 else c
theorem turn_blank {c : UInt8} (h : blankB c = true) : blankB (turn c) = true := by
  unfold turn
  split
  · decide
  · split
    · decide
    · exact h
theorem turn_same {c : UInt8} (h : blankB c = false) : turn c = c := by
  unfold blankB at h
  rw [Bool.or_eq_false_iff, beq_eq_false_iff_ne, beq_eq_false_iff_ne] at h
  unfold turn
  rw [if_neg h.1, if_neg h.2]
theorem turn_text {t : List UInt8} (h : ∀ c ∈ t, 32 < c.toNat) : t.map turn = t := by
  induction t with
  | nil => rfl
  | cons c t ih =>
    rw [List.map_cons, turn_same (blank_not (h c (by simp))), ih (fun d hd => h d (by simp [hd]))]
theorem shape_turn {k : Nat} {t r : List UInt8} (h : Shape k t r.head?) : Shape k t (r.map turn).head? := by
  cases r with
  | nil => exact h
  | cons c r =>
    cases hb : blankB c with
    | true => exact shape_soft h (fun d e => by
        have : turn c = d := by simpa using e
        rw [← this]; exact turn_blank hb)
    | false =>
      rw [List.map_cons, turn_same hb]
      exact h
theorem sc_turn : ∀ (l : List UInt8) (p n : Nat), sc (l.map turn) 0 p n = sc l 0 p n := by
  intro l
  refine sc_ind (P := fun l => ∀ (p n : Nat), sc (l.map turn) 0 p n = sc l 0 p n) ?_ ?_ ?_ ?_ l
  · intro p n; rfl
  · intro c r hb ih p n
    rw [List.map_cons, sc_blank hb, sc_blank (turn_blank hb), ih]
  · intro c r a b' e f p n
    rw [List.map_cons, turn_same a, sc_none p n a b' e f, sc_none p n a b' e f]
  · intro k t r hs ih p n
    rw [List.map_append, turn_text (shape_bytes hs).2, sc_shape p n hs, sc_shape p n (shape_turn hs), ih]
theorem toks_turn (l : List UInt8) : toks (l.map turn) = toks l := by
  unfold toks
  rw [List.length_map, sc_turn]

end Go.Proofs.YtmbkjabjcphkbaaDoor
end
section
/- Texts of trees: their tokens are such of package lex. -/
set_option linter.unusedVariables false
namespace Go.Proofs.YtmbkjabjcphkbaaDoor
open Go.RowKit

/-- a token's bytes -/
def good (t : List UInt8) : Prop := (firstOf t).2 = t.length ∧ wrongOf (firstOf t).1 t 0 = 0
instance (t : List UInt8) : Decidable (good t) := by unfold good; infer_instance
theorem good_shape {t : List UInt8} (h : good t) : Shape (firstOf t).1 t none := by
  have hk := wrongOf_kind h.2
  have hz : (firstOf t).2 ≠ 0 := fun e => hk ((firstOf_zero _).2 e)
  obtain ⟨a, r, h1, h2, h3⟩ := first_shape (l := t) (k := (firstOf t).1) (z := (firstOf t).2) rfl hz
  have hr : r = [] := by
    have := congrArg List.length h1
    rw [List.length_append, h2, h.1] at this
    exact List.eq_nil_of_length_eq_zero (by omega)
  subst hr
  rw [List.append_nil] at h1
  subst h1
  exact h3
theorem good_ne {t : List UInt8} (h : good t) : t ≠ [] := (shape_bytes (good_shape h)).1

/-- tokens that stand one behind the other from a place on -/
def AtP : Nat → List (List UInt8) → List Tok → Prop
  | _, [], z => z = []
  | p, t :: T, z => match z with
    | [] => False
    | k :: z => k.pl = p ∧ k.text = t ∧ AtP (p + t.length + 1) T z
theorem sc_join : ∀ (T : List (List UInt8)) (p n : Nat), (∀ t ∈ T, good t) → n + T.length ≤ 4096 → ∃ z, sc (joinT T) 0 p n = .ok z ∧ AtP p T z
  | [], p, n, _, _ => ⟨[], rfl, rfl⟩
  | t :: T, p, n, hg, hn => by
    have ht := hg t (by simp)
    have hw : wrongOf (firstOf t).1 t n = 0 := by
      rw [wrong_at ht.2, if_neg]
      simp at hn; omega
    obtain ⟨z, hz, ha⟩ := sc_join T (p + t.length + 1) (n + 1) (fun u hu => hg u (by simp [hu])) (by simp at hn; omega)
    have key : sc (joinT (t :: T)) 0 p n = (sc (joinT T) 0 (p + t.length + 1) (n + 1)).pre [⟨(firstOf t).1, t, p⟩] := by
      by_cases hT : T = []
      · subst hT
        have h := sc_shape (k := (firstOf t).1) (t := t) (r := []) p n (good_shape ht)
        rw [List.append_nil, if_pos hw] at h
        show sc t 0 p n = _
        rw [h]
        rfl
      · rw [joinT_cons t hT]
        have hs' : Shape (firstOf t).1 t (32 :: joinT T).head? := shape_soft (good_shape ht) (fun c e => by
          have : (32 : UInt8) = c := by simpa using e
          rw [← this]; decide)
        rw [sc_shape p n hs', if_pos hw, sc_blank blank32]
    rw [key, hz]
    exact ⟨_, rfl, rfl, rfl, ha⟩
/-- the bytes of so many tokens with a blank behind each -/
def sumL (T : List (List UInt8)) : Nat := (T.map fun t => t.length + 1).sum
theorem joinT_len : ∀ {T : List (List UInt8)}, T ≠ [] → (joinT T).length + 1 = sumL T
  | [], h => absurd rfl h
  | [t], _ => by simp [joinT, sumL]
  | t :: u :: T, _ => by
    have h := joinT_len (T := u :: T) (by simp)
    rw [joinT_cons t (by simp)]
    simp only [sumL, List.map_cons, List.sum_cons, List.length_append, List.length_cons] at h ⊢
    omega
theorem AtP.len : ∀ {T : List (List UInt8)} {p : Nat} {z : List Tok}, AtP p T z → z.length = T.length
  | [], _, z, h => by
    have h : z = [] := h
    rw [h]; rfl
  | t :: T, p, [], h => False.elim h
  | t :: T, p, k :: z, h => by simp [AtP.len h.2.2]
theorem AtP.get : ∀ {T : List (List UInt8)} {p : Nat} {z : List Tok}, AtP p T z → ∀ (i : Nat) (hi : i < z.length), z[i].pl = p + sumL (T.take i) ∧ ∃ h : i < T.length, z[i].text = T[i]
  | [], _, z, h, i, hi => by
    have h : z = [] := h
    subst h; exact absurd hi (by simp)
  | t :: T, p, [], h, i, hi => False.elim h
  | t :: T, p, k :: z, h, 0, hi => ⟨by simpa [sumL] using h.1, by simp, h.2.1⟩
  | t :: T, p, k :: z, h, i + 1, hi => by
    obtain ⟨h1, h2, h3⟩ := AtP.get h.2.2 i (by simpa using hi)
    refine ⟨?_, by simpa using h2, by simpa using h3⟩
    simp only [List.getElem_cons_succ, h1, List.take_succ_cons, sumL, List.map_cons, List.sum_cons]
    omega

/-! numbers -/
theorem digit_of (d : Nat) (h : d < 10) : digit (UInt8.ofNat (48 + d)) = true := by
  unfold digit
  have : (UInt8.ofNat (48 + d)).toNat = 48 + d := by simp; omega
  rw [this]; simp; omega
theorem dec_digits (u : Nat) : (∀ c ∈ Lib.decDigits u, digit c = true) ∧ Lib.decDigits u ≠ [] ∧ (0 < u → (Lib.decDigits u).head? ≠ some 48) := by
  induction u using Nat.strongRecOn with
  | _ u ih =>
    rw [Lib.decDigits]
    by_cases h : u < 10
    · rw [dif_pos h]
      refine ⟨fun c hc => ?_, by simp, fun h0 e => ?_⟩
      · rw [List.mem_singleton] at hc; rw [hc]; exact digit_of u h
      · have e : UInt8.ofNat (48 + u) = 48 := by simpa using e
        have e2 := congrArg UInt8.toNat e
        simp at e2; omega
    · rw [dif_neg h]
      obtain ⟨h1, h2, h3⟩ := ih (u / 10) (by omega)
      refine ⟨fun c hc => ?_, by simp, fun _ => ?_⟩
      · rcases List.mem_append.1 hc with h' | h'
        · exact h1 c h'
        · rw [List.mem_singleton] at h'; rw [h']; exact digit_of _ (Nat.mod_lt _ (by decide))
      · have := h3 (by omega)
        cases hl : Lib.decDigits (u / 10) with
        | nil => exact absurd hl h2
        | cons c r => rw [hl] at this; simpa using this
theorem dec_len (u : Nat) : (Lib.decDigits u).length = Lib.nDigits u := by rw [Lib.decDigits_eq]; simp
theorem nDigits_le : ∀ (k u : Nat), u < 10 ^ (k + 1) → Lib.nDigits u ≤ k + 1
  | 0, u, h => by rw [Lib.nDigits_small (by simpa using h)]; exact Nat.le_refl _
  | k + 1, u, h => by
    by_cases h1 : u < 10
    · rw [Lib.nDigits_small h1]; omega
    · rw [Lib.nDigits_big h1]
      have := nDigits_le k (u / 10) (by rw [Nat.pow_succ] at h; omega)
      omega
theorem itoa_good {n : Int} (h0 : 0 ≤ n) (h1 : n ≤ 999999999999999999) : good (Lib.itoa n) := by
  have e : Lib.itoa n = Lib.decDigits n.toNat := by unfold Lib.itoa; rw [if_neg (by omega)]
  rw [e]
  obtain ⟨hd, hne, hz⟩ := dec_digits n.toNat
  have hpw : (10 : Nat) ^ (17 + 1) = 1000000000000000000 := by decide
  have hlen : (Lib.decDigits n.toNat).length ≤ 18 := by rw [dec_len]; exact nDigits_le 17 _ (by rw [hpw]; omega)
  have hone : n.toNat = 0 → (Lib.decDigits n.toNat).length = 1 := fun h => by rw [dec_len, h, Lib.nDigits_small (by decide)]
  revert hd hne hz hlen hone
  generalize hl : Lib.decDigits n.toNat = l
  intro hd hne hz hlen hone
  have hr : runOf digit l = l.length := by
    have := run_app (p := digit) (t := l) (r := []) hd (by simp)
    rwa [List.append_nil] at this
  have hn0 : nameLen l = 0 := by
    cases l with
    | nil => exact absurd rfl hne
    | cons c r => exact nameLen_no (digit_small (hd c (by simp)))
  have hpos : 0 < l.length := List.length_pos_iff.2 hne
  have hf : firstOf l = (2, l.length) := by rw [fDigit hn0 (by omega), hr]
  refine ⟨by rw [hf], ?_⟩
  rw [hf]
  unfold wrongOf
  rw [if_neg (show ¬ (2 : Nat) = 0 by decide), if_neg (by omega), if_neg]
  rintro ⟨_, h | ⟨h2, h3⟩⟩
  · omega
  · by_cases h0' : 0 < n.toNat
    · exact hz h0' h3
    · have := hone (by omega); omega
theorem name_good {s : List UInt8} (h : nameB s = true) : good s := by
  unfold nameB at h
  have ⟨h1, h2, h3⟩ := of_decide_eq_true h
  refine ⟨h2, ?_⟩
  rw [h1]
  unfold wrongOf
  rw [if_neg (by decide), if_neg (by omega), if_neg (by omega)]

/-- none, or tokens all of which are such -/
def AllG (C : Ts) : Prop := ∀ T, C = some T → ∀ t ∈ T, good t
theorem AllG.none : AllG none := fun T h => by cases h
theorem AllG.some {T : List (List UInt8)} (h : ∀ t ∈ T, good t) : AllG (some T) := fun U e => by cases e; exact h
theorem AllG.cat {a b : Ts} (ha : AllG a) (hb : AllG b) : AllG (cat a b) := by
  cases a with
  | none => exact AllG.none
  | some x =>
    cases b with
    | none => exact AllG.none
    | some y =>
      refine AllG.some fun t ht => ?_
      rcases List.mem_append.1 ht with h | h
      · exact ha x rfl t h
      · exact hb y rfl t h
theorem AllG.need {p : Prop} [Decidable p] {c : Ts} (h : p → AllG c) : AllG (need p c) := by
  unfold Go.Proofs.YtmbkjabjcphkbaaDoor.need
  split
  · exact h ‹_›
  · exact AllG.none
theorem tyT_good (t : List UInt8) : AllG (tyT t) := by
  unfold tyT
  split
  · split
    · rename_i h
      refine AllG.some fun u hu => ?_
      rcases List.mem_cons.1 hu with e | e
      · rw [e]; decide
      · rw [List.mem_singleton] at e; rw [e]; exact name_good h
    · exact AllG.none
  · split
    · exact AllG.some (by decide)
    · split
      · rename_i h
        refine AllG.some fun u hu => ?_
        rw [List.mem_singleton] at hu
        rw [hu]
        rcases h with e | e <;> rw [e] <;> decide
      · exact AllG.none
theorem penAs_len : ∀ (es : List Ex) (b : Bool) (d c : Int) (xs : List (List (List UInt8))), penAs es b d c = some xs → xs.length = es.length
  | [], b, d, c, xs, h => by rw [penAs] at h; cases h; rfl
  | e :: es, b, d, c, xs, h => by
    rw [penAs] at h
    split at h
    · cases h
    · split at h
      · cases h
      · rename_i h2
        cases h
        simp [penAs_len es _ _ _ _ h2]
theorem len_one {α : Type} {l : List α} (h : l.length = 1) : ∃ a, l = [a] := by
  match l, h with
  | [a], _ => exact ⟨a, rfl⟩
theorem len_two {α : Type} {l : List α} (h : l.length = 2) : ∃ a b, l = [a, b] := by
  match l, h with
  | [a, b], _ => exact ⟨a, b, rfl⟩
theorem len_three {α : Type} {l : List α} (h : l.length = 3) : ∃ a b c, l = [a, b, c] := by
  match l, h with
  | [a, b, c], _ => exact ⟨a, b, c, rfl⟩
theorem argsN_le (k : Int) : argsN k ≤ 3 := by unfold argsN; repeat' split
                                               all_goals omega
theorem ops_good : ∀ t ∈ opsL, good t := by decide
theorem headB_name {k n : Int} {s : List UInt8} {chain : Int} (h : headB k n s chain = true) (hk : k = 4 ∨ k = 5 ∨ k = 11 ∨ k = 13) : nameB s = true := by
  unfold headB at h
  rcases hk with e | e | e | e <;> subst e <;> simp at h <;> simp [h]
theorem shapeE_good {k n : Int} {s : List UInt8} {chain : Int} {xs : List (List (List UInt8))} (h : headB k n s chain = true) (hl : xs.length = argsN k) (hx : ∀ x ∈ xs, ∀ t ∈ x, good t) : ∀ t ∈ shapeE k n s xs, good t := by
  have hk : k = 1 ∨ k = 2 ∨ k = 3 ∨ k = 4 ∨ k = 5 ∨ k = 6 ∨ k = 7 ∨ k = 8 ∨ k = 9 ∨ k = 10 ∨ k = 11 ∨ k = 12 ∨ k = 13 := by
    by_cases k1 : k = 1
    · omega
    by_cases k2 : k = 2
    · omega
    by_cases k3 : k = 3
    · omega
    by_cases k4 : k = 4
    · omega
    by_cases k5 : k = 5
    · omega
    by_cases k6 : k = 6
    · omega
    by_cases k7 : k = 7
    · omega
    by_cases k8 : k = 8
    · omega
    by_cases k9 : k = 9
    · omega
    by_cases k10 : k = 10
    · omega
    by_cases k11 : k = 11
    · omega
    by_cases k12 : k = 12
    · omega
    by_cases k13 : k = 13
    · omega
    rw [headB, if_neg k1, if_neg k2, if_neg k3, if_neg k4, if_neg k5, if_neg k6, if_neg k7, if_neg k8, if_neg k9, if_neg k10, if_neg k11, if_neg k12, if_neg k13] at h
    exact absurd h (by decide)
  have one : ∀ {a : List (List UInt8)}, xs = [a] → ∀ t ∈ a, good t := fun e => hx _ (by rw [e]; simp)
  rcases hk with e | e | e | e | e | e | e | e | e | e | e | e | e <;> subst e <;> simp only [argsN] at hl <;> simp at hl
  · subst hl
    have h' : 0 ≤ n ∧ n ≤ 999999999999999999 ∧ s = [] := by simpa [headB] using h
    intro t ht
    have : t = Lib.itoa n := by simpa [shapeE] using ht
    rw [this]; exact itoa_good h'.1 h'.2.1
  · subst hl
    intro t ht
    simp [shapeE] at ht
    split at ht <;> (rw [List.mem_singleton] at ht; rw [ht]; decide)
  · subst hl
    intro t ht
    simp [shapeE] at ht
    rw [ht]; decide
  · subst hl
    intro t ht
    simp [shapeE] at ht
    rw [ht]; exact name_good (headB_name h (by omega))
  · obtain ⟨a, rfl⟩ := len_one hl
    intro t ht
    simp [shapeE] at ht
    rcases ht with ht | ht | ht
    · exact one rfl t ht
    · rw [ht]; decide
    · rw [ht]; exact name_good (headB_name h (by omega))
  · obtain ⟨a, b, rfl⟩ := len_two hl
    intro t ht
    simp [shapeE] at ht
    rcases ht with ht | ht | ht | ht
    · exact hx a (by simp) t ht
    · rw [ht]; decide
    · exact hx b (by simp) t ht
    · rw [ht]; decide
  · obtain ⟨a, b, c, rfl⟩ := len_three hl
    intro t ht
    simp [shapeE] at ht
    rcases ht with ht | ht | ht | ht | ht | ht
    · exact hx a (by simp) t ht
    · rw [ht]; decide
    · exact hx b (by simp) t ht
    · rw [ht]; decide
    · exact hx c (by simp) t ht
    · rw [ht]; decide
  · obtain ⟨a, rfl⟩ := len_one hl
    intro t ht
    simp [shapeE] at ht
    rcases ht with ht | ht | ht | ht
    · rw [ht]; decide
    · rw [ht]; decide
    · exact one rfl t ht
    · rw [ht]; decide
  · obtain ⟨a, rfl⟩ := len_one hl
    have h' : n = 0 ∧ (s = [45] ∨ s = [33]) := by simpa [headB] using h
    intro t ht
    simp [shapeE] at ht
    rcases ht with ht | ht | ht | ht
    · rw [ht]; decide
    · rw [ht]; rcases h'.2 with e | e <;> rw [e] <;> decide
    · exact one rfl t ht
    · rw [ht]; decide
  · obtain ⟨a, b, rfl⟩ := len_two hl
    have h' : n = 0 ∧ s ∈ opsL := by simpa [headB] using h
    intro t ht
    simp [shapeE] at ht
    rcases ht with ht | ht | ht | ht | ht
    · rw [ht]; decide
    · exact hx a (by simp) t ht
    · rw [ht]; exact ops_good _ h'.2
    · exact hx b (by simp) t ht
    · rw [ht]; decide
  · subst hl
    intro t ht
    simp [shapeE] at ht
    rcases ht with ht | ht
    · rw [ht]; decide
    · rw [ht]; exact name_good (headB_name h (by omega))
  · obtain ⟨a, rfl⟩ := len_one hl
    intro t ht
    simp [shapeE] at ht
    rcases ht with ht | ht | ht | ht
    · rw [ht]; decide
    · rw [ht]; decide
    · exact one rfl t ht
    · rw [ht]; decide
  · subst hl
    intro t ht
    simp [shapeE] at ht
    rcases ht with ht | ht
    · rw [ht]; decide
    · rw [ht]; exact name_good (headB_name h (by omega))
mutual
theorem penE_good : ∀ (e : Ex) (d c : Int), AllG (penE e d c)
  | .mk k p n s args, d, c => by
    rw [penE]
    split
    · rename_i h
      cases hp : penAs args (behindB k) d c with
      | none => exact AllG.none
      | some xs => exact AllG.some (shapeE_good h.2.1 ((penAs_len _ _ _ _ _ hp).trans h.2.2) (penAs_good args _ d c xs hp))
    · exact AllG.none
theorem penAs_good : ∀ (es : List Ex) (b : Bool) (d c : Int) (xs : List (List (List UInt8))), penAs es b d c = some xs → ∀ x ∈ xs, ∀ t ∈ x, good t
  | [], b, d, c, xs, h => by rw [penAs] at h; cases h; intro x hx; exact absurd hx (by simp)
  | e :: es, b, d, c, xs, h => by
    rw [penAs] at h
    split at h
    · cases h
    · rename_i x h1
      split at h
      · cases h
      · rename_i ys h2
        cases h
        intro y hy
        rcases List.mem_cons.1 hy with e' | e'
        · subst e'
          split at h1
          · exact penE_good e _ _ _ h1
          · exact penE_good e _ _ _ h1
        · exact penAs_good es _ _ _ _ h2 y e'
end
theorem penEs_good : ∀ (es : List Ex) (d : Int) (xs : List (List (List UInt8))), penEs es d = some xs → xs.length = es.length ∧ ∀ x ∈ xs, ∀ t ∈ x, good t
  | [], d, xs, h => by rw [penEs] at h; cases h; exact ⟨rfl, fun x hx => absurd hx (by simp)⟩
  | e :: es, d, xs, h => by
    rw [penEs] at h
    split at h
    · cases h
    · rename_i x h1
      split at h
      · cases h
      · rename_i ys h2
        cases h
        have ih := penEs_good es d ys h2
        refine ⟨by simp [ih.1], fun y hy => ?_⟩
        rcases List.mem_cons.1 hy with e' | e'
        · subst e'; exact penE_good e _ _ _ h1
        · exact ih.2 y e'
theorem flat_good {xs : List (List (List UInt8))} (h : ∀ x ∈ xs, ∀ t ∈ x, good t) : ∀ t ∈ xs.flatten, good t := fun t ht => by
  obtain ⟨x, hx, ht⟩ := List.mem_flatten.1 ht
  exact h x hx t ht
theorem commas_good : ∀ {xs : List (List (List UInt8))}, (∀ x ∈ xs, ∀ t ∈ x, good t) → ∀ t ∈ commas xs, good t
  | [], _ => fun t ht => absurd ht (by simp [commas])
  | [a], h => h a (by simp)
  | a :: b :: r, h => fun t ht => by
    have ih := commas_good (xs := b :: r) (fun x hx => h x (by simp only [List.mem_cons] at hx ⊢; exact .inr hx))
    rw [commas] at ht
    rcases List.mem_append.1 ht with ht | ht
    · exact h a (by simp) t ht
    · rcases List.mem_cons.1 ht with ht | ht
      · rw [ht]; decide
      · exact ih t ht
theorem wordS_good (k : Int) : good (wordS k) := by
  unfold wordS
  repeat' split
  all_goals decide
theorem stHead_name {k : Int} {nm ty : List UInt8} {ex : List Ex} {nb nl : Nat} (h : stHead k nm ty ex nb nl = true) (hk : k ≠ 2 ∧ k ≠ 3 ∧ k ≠ 4 ∧ k ≠ 11) : nameB nm = true := by
  obtain ⟨h2, h3, h4, h11⟩ := hk
  unfold stHead at h
  by_cases k1 : k = 1
  · rw [if_pos k1] at h; exact (of_decide_eq_true h).1
  rw [if_neg k1, if_neg h2, if_neg h3, if_neg h4] at h
  repeat' split at h
  all_goals first | omega | (exact (of_decide_eq_true h).1) | (exact absurd h (by simp))
theorem shapeS_good {k : Int} {nm ty : List UInt8} {ex : List Ex} {nb nl : Nat} {xs : List (List (List UInt8))} (h : stHead k nm ty ex nb nl = true) (h34 : ¬ (k = 3 ∨ k = 4)) (hx : ∀ x ∈ xs, ∀ t ∈ x, good t) : ∀ t ∈ shapeS k nm ty xs, good t := by
  have hf := flat_good hx
  have semi : good [59] := by decide
  have eqs : good [61] := by decide
  unfold shapeS
  by_cases k1 : k = 1
  · rw [if_pos k1]
    have hn := stHead_name h (by omega)
    intro t ht
    simp only [List.mem_append, List.mem_cons, List.not_mem_nil, or_false] at ht
    rcases ht with (((ht | ht) | ht) | ht) | ht
    · rcases ht with ht | ht
      · rw [ht]; exact wordS_good 1
      · rw [ht]; exact name_good hn
    · cases hty : tyT ty with
      | none => rw [hty] at ht; exact absurd ht (by simp)
      | some T => rw [hty] at ht; exact tyT_good ty T hty t ht
    · rw [ht]; exact eqs
    · exact hf t ht
    · rw [ht]; exact semi
  rw [if_neg k1]
  by_cases k2 : k = 2
  · rw [if_pos k2]
    intro t ht
    cases xs with
    | nil =>
      simp at ht
      rcases ht with ht | ht
      · rw [ht]; exact wordS_good 2
      · rw [ht]; exact semi
    | cons a r =>
      simp only [List.mem_append, List.mem_cons, List.not_mem_nil, or_false] at ht
      rcases ht with (ht | ht) | ht
      · rw [ht]; exact wordS_good 2
      · rcases ht with (ht | ht) | ht
        · exact hx a (by simp) t ht
        · rw [ht]; exact eqs
        · exact flat_good (xs := r) (fun x hx' => hx x (by simp [hx'])) t ht
      · rw [ht]; exact semi
  rw [if_neg k2]
  by_cases k8 : k = 8
  · rw [if_pos k8]
    have hn := stHead_name h (by omega)
    subst k8
    have ht' : nameB ty = true := by simp [stHead] at h; exact h.2.1
    intro t ht
    simp only [List.mem_cons, List.not_mem_nil, or_false] at ht
    rcases ht with ht | ht | ht | ht
    · rw [ht]; exact wordS_good 8
    · rw [ht]; exact name_good hn
    · rw [ht]; exact name_good ht'
    · rw [ht]; exact semi
  rw [if_neg k8]
  by_cases k10 : k = 10
  · rw [if_pos k10]
    have hn := stHead_name h (by omega)
    subst k10
    have ht' : ty = [] ∨ nameB ty = true := by simp [stHead] at h; exact h.2.1
    intro t ht
    simp only [List.mem_append, List.mem_cons, List.not_mem_nil, or_false] at ht
    rcases ht with (((ht | ht) | ht) | ht) | ht
    · rw [ht]; exact wordS_good 10
    · by_cases he : ty = []
      · rw [if_pos he] at ht; exact absurd ht (by simp)
      · rw [if_neg he] at ht
        simp only [List.mem_cons, List.not_mem_nil, or_false] at ht
        rcases ht with ht | ht
        · rw [ht]; exact name_good (ht'.resolve_left he)
        · rw [ht]; exact eqs
    · rcases ht with ht | ht
      · rw [ht]; exact name_good hn
      · rw [ht]; decide
    · exact commas_good hx t ht
    · rcases ht with ht | ht
      · rw [ht]; decide
      · rw [ht]; exact semi
  rw [if_neg k10]
  by_cases k11 : k = 11
  · rw [if_pos k11]
    intro t ht
    simp only [List.mem_append, List.mem_cons, List.not_mem_nil, or_false] at ht
    rcases ht with (ht | ht) | ht
    · rw [ht]; exact wordS_good 11
    · exact hf t ht
    · rw [ht]; exact semi
  rw [if_neg k11]
  have hn := stHead_name h (by omega)
  intro t ht
  simp only [List.mem_append, List.mem_cons, List.not_mem_nil, or_false] at ht
  rcases ht with ((ht | ht) | ht) | ht
  · rw [ht]; exact wordS_good k
  · rw [ht]; exact name_good hn
  · exact hf t ht
  · rw [ht]; exact semi
theorem inBlock_good {d : Int} {c : Ts} (h : AllG c) : AllG (inBlock d c) := by
  unfold inBlock
  split
  · exact AllG.cat (AllG.some (by decide)) (AllG.cat h (AllG.some (by decide)))
  · exact AllG.none
mutual
theorem penS_good : ∀ (s : Sm) (d : Int), AllG (penS s d)
  | .mk k p nm ty ex bd el, d => by
    rw [penS]
    split
    · rename_i h
      cases hp : penEs ex (d + 1) with
      | none => exact AllG.none
      | some xs =>
        have hx := (penEs_good _ _ _ hp).2
        show AllG (if k = 3 ∨ k = 4 then _ else _)
        split
        · refine AllG.cat (AllG.some fun t ht => ?_) (AllG.cat (inBlock_good (penSs_good bd _)) ?_)
          · rcases List.mem_append.1 ht with ht | ht
            · rw [List.mem_singleton] at ht; rw [ht]; exact wordS_good k
            · exact flat_good hx t ht
          · split
            · exact AllG.some (by simp)
            · exact AllG.cat (AllG.some (by decide)) (inBlock_good (penSs_good el _))
        · exact AllG.some (shapeS_good h ‹_› hx)
    · exact AllG.none
theorem penSs_good : ∀ (ss : List Sm) (d : Int), AllG (penSs ss d)
  | [], d => by rw [penSs]; exact AllG.some (by simp)
  | s :: ss, d => by rw [penSs]; exact AllG.cat (penS_good s d) (penSs_good ss d)
end
theorem nmT_good (s : List UInt8) : AllG (nmT s) := by
  unfold nmT
  split
  · exact AllG.some fun t ht => by rw [List.mem_singleton] at ht; rw [ht]; exact name_good ‹_›
  · exact AllG.none
theorem penPr_good (p : Pr) : AllG (penPr p) := AllG.cat (nmT_good _) (tyT_good _)
theorem penFs_good : ∀ ps : List Pr, AllG (penFs ps)
  | [] => AllG.some (by simp)
  | p :: ps => AllG.cat (AllG.cat (penPr_good p) (AllG.some (by decide))) (penFs_good ps)
theorem penPs_good : ∀ (ps : List Pr) (i : Nat), AllG (penPs ps i)
  | [], _ => AllG.some (by simp)
  | p :: ps, i => AllG.cat (AllG.cat (AllG.some (by split <;> decide)) (penPr_good p)) (penPs_good ps (i + 1))
theorem penD_good (d : Dc) : AllG (penD d) := by
  unfold penD
  by_cases hn : nameB d.name = true
  · have gn := name_good hn
    refine AllG.cat (AllG.need fun _ => AllG.some (by simp)) ?_
    have one : ∀ a : List UInt8, good a → ∀ t ∈ [a, d.name, [59]], good t := fun a ha t ht => by
      simp only [List.mem_cons, List.not_mem_nil, or_false] at ht
      rcases ht with ht | ht | ht
      · rw [ht]; exact ha
      · rw [ht]; exact gn
      · rw [ht]; decide
    have three : ∀ a b : List UInt8, good a → good b → ∀ t ∈ [a, d.name, b], good t := fun a b ha hb t ht => by
      simp only [List.mem_cons, List.not_mem_nil, or_false] at ht
      rcases ht with ht | ht | ht
      · rw [ht]; exact ha
      · rw [ht]; exact gn
      · rw [ht]; exact hb
    have two : ∀ a : List UInt8, good a → ∀ t ∈ [a, d.name], good t := fun a ha t ht => by
      simp only [List.mem_cons, List.not_mem_nil, or_false] at ht
      rcases ht with ht | ht
      · rw [ht]; exact ha
      · rw [ht]; exact gn
    split
    · exact AllG.need fun _ => AllG.some (one _ (wordS_good 5))
    split
    · refine AllG.need fun h => AllG.some fun t ht => ?_
      simp only [List.mem_cons, List.not_mem_nil, or_false] at ht
      rcases ht with ht | ht | ht | ht
      · rw [ht]; decide
      · rw [ht]; exact gn
      · rw [ht]; exact itoa_good (by omega) (by omega)
      · rw [ht]; decide
    split
    · exact AllG.need fun _ => AllG.cat (AllG.some (three _ _ (by decide) (by decide))) (AllG.cat (penFs_good _) (AllG.some (by decide)))
    split
    · exact AllG.need fun _ => AllG.cat (AllG.some (two _ (wordS_good 1))) (AllG.cat (tyT_good _) (AllG.some (by decide)))
    split
    · exact AllG.need fun _ => AllG.some (one _ (by decide))
    split
    · exact AllG.need fun _ => AllG.some (one _ (by decide))
    split
    · refine AllG.need fun _ => AllG.cat (AllG.some (three _ _ (by decide) (by decide))) (AllG.cat (penPs_good _ 0) (AllG.cat (AllG.some (by decide)) (AllG.cat ?_ (inBlock_good (penSs_good _ _)))))
      split
      · exact AllG.some (by simp)
      · exact tyT_good _
    split
    · exact AllG.need fun _ => AllG.cat (AllG.some (two _ (by decide))) (inBlock_good (penSs_good _ _))
    · exact AllG.none
  · intro T h
    rw [need, if_neg hn, cat_none_l] at h
    cases h
theorem penDs_good : ∀ ds : List Dc, AllG (penDs ds)
  | [] => AllG.some (by simp)
  | d :: ds => AllG.cat (penD_good d) (penDs_good ds)
theorem penP_good (ds : List Dc) : AllG (penP ds) := AllG.need fun _ => penDs_good ds

/-- a shown text is its tokens with a blank between each two -/
theorem toks_fin {C : Ts} (hg : AllG C) {T : List (List UInt8)} (h : lim C = some T) : ∃ z, toks (joinT T) = .ok z ∧ AtP 0 T z := by
  cases C with
  | none => cases h
  | some U =>
    rw [lim] at h
    split at h
    · rename_i hf
      cases h
      obtain ⟨z, h1, h2⟩ := sc_join T 0 0 (hg T rfl) (by have := hf.2; omega)
      refine ⟨z, ?_, h2⟩
      unfold toks
      rw [if_neg (by have := hf.1; omega)]
      exact h1
    · cases h

end Go.Proofs.YtmbkjabjcphkbaaDoor
end
section
/- The walk of TreeTokens. -/
set_option linter.unusedVariables false
namespace Go.Proofs.YtmbkjabjcphkbaaDoor
open Go.RowKit

theorem AtP_len : ∀ {T : List (List UInt8)} {p : Nat} {z : List Tok}, AtP p T z → z.length = T.length
  | [], p, z, h => by rw [AtP] at h; rw [h]; rfl
  | t :: T, p, [], h => by rw [AtP] at h; exact h.elim
  | t :: T, p, k :: z, h => by rw [AtP] at h; simp [AtP_len h.2.2]
theorem AtP_get : ∀ {T : List (List UInt8)} {p : Nat} {z : List Tok}, AtP p T z → ∀ (k : Nat) (hk : k < z.length) (hk' : k < T.length), z[k].pl = p + sumL (T.take k) ∧ z[k].text = T[k]
  | [], p, z, h, k, hk, hk' => absurd hk' (by simp)
  | t :: T, p, [], h, k, hk, hk' => absurd hk (by simp)
  | t :: T, p, x :: z, h, k, hk, hk' => by
    rw [AtP] at h
    cases k with
    | zero => exact ⟨by simp [sumL, h.1], h.2.1⟩
    | succ k =>
      obtain ⟨a, b⟩ := AtP_get h.2.2 k (by simpa using hk) (by simpa using hk')
      have hk1 : k < z.length := by simpa using hk
      refine ⟨?_, b⟩
      show z[k].pl = _
      rw [a]
      simp [sumL]
      omega
theorem sumL_take {T : List (List UInt8)} {k : Nat} (h : k < T.length) : sumL (T.take (k + 1)) = sumL (T.take k) + (T[k].length + 1) := by
  unfold sumL
  rw [List.take_succ_eq_append_getElem h, List.map_append, List.sum_append]
  simp only [List.map_cons, List.map_nil, List.sum_cons, List.sum_nil, Nat.add_zero]

theorem len_joinT {T : List (List UInt8)} (h : (joinT T).length ≠ 0) : sumL T = (joinT T).length + 1 := by
  have hT : T ≠ [] := fun e => by subst e; exact h rfl
  exact (joinT_len hT).symm
theorem joinT_eq_nil {T : List (List UInt8)} (h : joinT T = []) : T = [] ∨ T = [[]] := by
  match T, h with
  | [], _ => exact .inl rfl
  | [t], h => exact .inr (by simpa [joinT] using h)
  | t :: u :: r, h => simp [joinT] at h
set_option maxRecDepth 100000 in
theorem treeTokens_heavy (w : World) (htab : TabW w) {ds : List Dc} {v : Value} (h : DcsIn w (· < w.heap.size) ds v) (hw : 40000 < goDs ds 0 40000 60) :
    Calls Tryd.prog 4 #[.agg #[v]] w fun r w' => r = .returned (.bool true) ∧ Below w.heap.size w w' := by
  obtain ⟨A, c, _, _, rfl, _⟩ := id h
  obtain ⟨X, hX⟩ : ∃ X : World, X = w.alloc (.cells #[.slice A ds.length c] 39) := ⟨_, rfl⟩
  have hbx : Below w.heap.size w X := by rw [hX]; exact (Below.refl _ _).alloc (Nat.le_refl _) _
  have hrow : X.heap[w.heap.size]? = some (.cells #[.slice A ds.length c] 39 (0, 0)) := by rw [hX]; exact heap_alloc_new _ _
  have hgx : w.heap.size < X.heap.size := lt_of_heap hrow
  have HAL := Lib.hid (alive_any X (htab.below hbx))
  have HX := Lib.hid hX
  have HBX := Lib.hid hbx
  have HIN := Lib.hid h
  have HROW := Lib.hid hrow
  have HT := Lib.hid htab
  have HGX := Lib.hid hgx
  clear hX hbx htab h hrow hgx
  go_enter Tryd.func4, Tryd.ntmps4
  go_wp2_with fail
  rw [← HX.out]
  refine HAL.out.mono ?_
  rintro e1 w1 ⟨rfl, hb1⟩
  have hq1 : w1.heap[w.heap.size]? = some (.cells #[.slice A ds.length c] 39 (0, 0)) := (hb1.block _ HGX.out).trans HROW.out
  have q1 : w1.cell? ⟨w.heap.size, 0, none⟩ = some (.slice A ds.length c) := by rw [cell_of_row w1 _ 0 _ _ (0, 0) hq1]; rfl
  have hbw : Below w.heap.size w w1 := HBX.out.trans (hb1.mono HBX.out.size)
  have HWG := Lib.hid (weighp_any HIN.out 40000 60 w1 hbw hbw.size (by omega) (by omega) (by omega) (by omega))
  have HB1 := Lib.hid hbw
  have HQ1 := Lib.hid hq1
  clear hb1 hq1 hbw
  go_wp2_with fail
  refine HWG.out.mono ?_
  rintro e2 w2 ⟨rfl, hb2⟩
  have hq2 : w2.heap[w.heap.size]? = some (.cells #[.slice A ds.length c] 39 (0, 0)) := (hb2.block _ (lt_of_heap HQ1.out)).trans HQ1.out
  have q2 : w2.cell? ⟨w.heap.size, 0, none⟩ = some (.slice A ds.length c) := by rw [cell_of_row w2 _ 0 _ _ (0, 0) hq2]; rfl
  have HQ2 := Lib.hid hq2
  have HB2 := Lib.hid (HB1.out.trans (hb2.mono HB1.out.size))
  clear hb2 q1 hq2
  obtain ⟨G, hG⟩ : ∃ G, G = goDs ds 0 40000 60 := ⟨_, rfl⟩
  rw [← hG] at hw ⊢
  clear hG
  go_wp2
  go_ret
  exact ⟨rfl, HB2.out⟩
set_option maxRecDepth 100000 in
theorem treeTokens_none (w : World) (htab : TabW w) {ds : List Dc} {v : Value} (h : DcsIn w (· < w.heap.size) ds v) (hw : ¬ 40000 < goDs ds 0 40000 60) (hf : fin (penP ds) = ([], 23)) :
    Calls Tryd.prog 4 #[.agg #[v]] w fun r w' => r = .returned (.bool true) ∧ Below w.heap.size w w' := by
  obtain ⟨A, c, _, _, rfl, _⟩ := id h
  obtain ⟨X, hX⟩ : ∃ X : World, X = w.alloc (.cells #[.slice A ds.length c] 39) := ⟨_, rfl⟩
  have hbx : Below w.heap.size w X := by rw [hX]; exact (Below.refl _ _).alloc (Nat.le_refl _) _
  have hrow : X.heap[w.heap.size]? = some (.cells #[.slice A ds.length c] 39 (0, 0)) := by rw [hX]; exact heap_alloc_new _ _
  have hgx : w.heap.size < X.heap.size := lt_of_heap hrow
  have HAL := Lib.hid (alive_any X (htab.below hbx))
  have HX := Lib.hid hX
  have HBX := Lib.hid hbx
  have HIN := Lib.hid h
  have HROW := Lib.hid hrow
  have HT := Lib.hid htab
  have HGX := Lib.hid hgx
  clear hX hbx htab h hrow hgx
  go_enter Tryd.func4, Tryd.ntmps4
  go_wp2_with fail
  rw [← HX.out]
  refine HAL.out.mono ?_
  rintro e1 w1 ⟨rfl, hb1⟩
  have hq1 : w1.heap[w.heap.size]? = some (.cells #[.slice A ds.length c] 39 (0, 0)) := (hb1.block _ HGX.out).trans HROW.out
  have q1 : w1.cell? ⟨w.heap.size, 0, none⟩ = some (.slice A ds.length c) := by rw [cell_of_row w1 _ 0 _ _ (0, 0) hq1]; rfl
  have hbw : Below w.heap.size w w1 := HBX.out.trans (hb1.mono HBX.out.size)
  have HWG := Lib.hid (weighp_any HIN.out 40000 60 w1 hbw hbw.size (by omega) (by omega) (by omega) (by omega))
  have HB1 := Lib.hid hbw
  have HQ1 := Lib.hid hq1
  clear hb1 hq1 hbw
  go_wp2_with fail
  refine HWG.out.mono ?_
  rintro e2 w2 ⟨rfl, hb2⟩
  have hq2 : w2.heap[w.heap.size]? = some (.cells #[.slice A ds.length c] 39 (0, 0)) := (hb2.block _ (lt_of_heap HQ1.out)).trans HQ1.out
  have q2 : w2.cell? ⟨w.heap.size, 0, none⟩ = some (.slice A ds.length c) := by rw [cell_of_row w2 _ 0 _ _ (0, 0) hq2]; rfl
  have HQ2 := Lib.hid hq2
  have HB2 := Lib.hid (HB1.out.trans (hb2.mono HB1.out.size))
  clear hb2 q1 hq2
  obtain ⟨G, hG⟩ : ∃ G, G = goDs ds 0 40000 60 := ⟨_, rfl⟩
  rw [← hG] at hw ⊢
  have hl := light_of (ds := ds) (by omega)
  have HCP := Lib.hid (copy_light HIN.out hl w2 HB2.out HB2.out.size)
  have HL := Lib.hid hl
  have HF := Lib.hid hf
  clear hG hl hf
  go_wp2_with fail
  refine HCP.out.mono ?_
  rintro e3 w3 ⟨v', rfl, hin3, hb3⟩
  have hb30 := HB2.out.trans (hb3.mono HB2.out.size)
  have HSH := Lib.hid (show_any w3 (HT.out.below hb30) (hin3.keep (fun _ _ => rfl) (fun b hlt => hlt.2)) HL.out.nm)
  rw [HF.out] at HSH
  obtain ⟨S, hS⟩ : ∃ S, S = strOf [] := ⟨_, rfl⟩
  have HSH : Hid (Calls Tryd.prog 20 #[.agg #[v']] w3 fun r w' => r = .returned (.tuple #[.string S, .int .i64 23]) ∧ Below w3.heap.size w3 w') := by rw [hS]; exact HSH
  have hs : S.toList = [] := by rw [hS, strOf_toList]
  have HB3 := Lib.hid hb30
  clear hS hb30 hin3 hb3 q2
  go_wp2_with fail
  refine HSH.out.mono ?_
  rintro e4 w4 ⟨rfl, hb4⟩
  have HB4 := Lib.hid (HB3.out.trans (hb4.mono HB3.out.size))
  clear hb4
  go_wp2
  go_ret
  exact ⟨rfl, HB4.out⟩

end Go.Proofs.YtmbkjabjcphkbaaDoor
end
