/- Plain lists of bytes: what the functions of package lex compute. -/
namespace Go.Proofs.YtadkimnpeachpaaGreatDoor

structure Tok where
  kind : Nat
  text : List UInt8
  pl : Nat
inductive Res where
  | ok (l : List Tok)
  | err (pl e : Nat)
def Res.pre (acc : List Tok) : Res → Res
  | .ok l => .ok (acc ++ l)
  | .err p e => .err p e
theorem Res.pre_nil (x : Res) : x.pre [] = x := by cases x <;> rfl
theorem Res.pre_pre (a b : List Tok) (x : Res) : (x.pre b).pre a = x.pre (a ++ b) := by cases x <;> simp [Res.pre]

def small (c : UInt8) : Bool := decide (97 ≤ c.toNat) && decide (c.toNat ≤ 122)
def digit (c : UInt8) : Bool := decide (48 ≤ c.toNat) && decide (c.toNat ≤ 57)
def tailB (c : UInt8) : Bool := small c || digit c || c.toNat == 95
def blankB (c : UInt8) : Bool := c.toNat == 32 || c.toNat == 10
def wordsL : List (List UInt8) := [[98, 111, 111, 108], [99, 97, 108, 108], [99, 104, 97, 110], [101, 108, 115, 101], [102, 97, 108, 115, 101], [102, 117, 110, 99], [105, 102], [105, 110, 112, 117, 116], [105, 110, 116], [108, 101, 110], [108, 111, 99, 107], [109, 97, 107, 101], [110, 101, 119], [110, 105, 108], [111, 117, 116], [114, 101, 99, 118], [114, 101, 108, 101, 97, 115, 101], [114, 101, 116, 117, 114, 110], [115, 101, 110, 100], [115, 101, 116], [115, 105, 110, 107], [115, 116, 114, 117, 99, 116], [116, 104, 114, 101, 97, 100], [116, 114, 117, 101], [117, 110, 108, 111, 99, 107], [118, 97, 114], [119, 104, 105, 108, 101]]
def signsL : List UInt8 := [123, 125, 40, 41, 91, 93, 44, 59, 46, 58, 61, 43, 45, 42, 47, 37, 60, 33, 38, 124]
def isWord (t : List UInt8) : Bool := wordsL.contains t
def runOf (p : UInt8 → Bool) (l : List UInt8) : Nat := (l.takeWhile p).length
def nameLen : List UInt8 → Nat
  | [] => 0
  | c :: r => if small c then runOf tailB (c :: r) else 0
theorem nameLen_cons (c : UInt8) (r : List UInt8) : nameLen (c :: r) = if small c then runOf tailB (c :: r) else 0 := rfl
def twoB (l : List UInt8) : Bool := List.isPrefixOf [60, 61] l || List.isPrefixOf [61, 61] l || List.isPrefixOf [33, 61] l
def signLen (l : List UInt8) : Nat := if twoB l then 2 else match l with
  | [] => 0
  | c :: _ => if signsL.contains c then 1 else 0
def firstOf (l : List UInt8) : Nat × Nat :=
  if 0 < nameLen l then (if isWord (l.take (nameLen l)) then 4 else 1, nameLen l)
  else if 0 < runOf digit l then (2, runOf digit l)
  else if 0 < signLen l then (3, signLen l) else (0, 0)
def wrongOf (k : Nat) (t : List UInt8) (n : Nat) : Nat :=
  if k = 0 then 10 else if (k = 1 ∧ 16 < t.length) ∨ 4096 ≤ n then 12
  else if k = 2 ∧ (18 < t.length ∨ (1 < t.length ∧ t.head? = some 48)) then 11 else 0
/-- the tokens of a text: so many bytes are to be passed over, at a place, behind so many tokens -/
def sc : List UInt8 → Nat → Nat → Nat → Res
  | [], _, _, _ => .ok []
  | _ :: r, k + 1, at_, n => sc r k (at_ + 1) n
  | c :: r, 0, at_, n =>
    if blankB c then sc r 0 (at_ + 1) n
    else if wrongOf (firstOf (c :: r)).1 ((c :: r).take (firstOf (c :: r)).2) n ≠ 0 then .err at_ (wrongOf (firstOf (c :: r)).1 ((c :: r).take (firstOf (c :: r)).2) n)
    else (sc r ((firstOf (c :: r)).2 - 1) (at_ + 1) (n + 1)).pre [⟨(firstOf (c :: r)).1, (c :: r).take (firstOf (c :: r)).2, at_⟩]
/-- the answer of Tokens -/
def toks (l : List UInt8) : Res := if 16384 < l.length then .err 0 12 else sc l 0 0 0

theorem sc_skip : ∀ (k : Nat) (l : List UInt8) (a n : Nat), k ≤ l.length → sc l k a n = sc (l.drop k) 0 (a + k) n
  | 0, _, _, _, _ => rfl
  | k + 1, [], _, _, h => absurd h (by simp)
  | k + 1, _ :: r, a, n, h => by
    have ih := sc_skip k r (a + 1) n (by simpa using h)
    show sc r k (a + 1) n = sc (r.drop k) 0 (a + (k + 1)) n
    rw [ih, show a + 1 + k = a + (k + 1) from by omega]
theorem sc_blank {c : UInt8} {r : List UInt8} {a n : Nat} (h : blankB c = true) : sc (c :: r) 0 a n = sc r 0 (a + 1) n := by
  rw [sc, if_pos h]
theorem sc_err {c : UInt8} {r : List UInt8} {a n : Nat} (h : blankB c = false) (he : wrongOf (firstOf (c :: r)).1 ((c :: r).take (firstOf (c :: r)).2) n ≠ 0) :
    sc (c :: r) 0 a n = .err a (wrongOf (firstOf (c :: r)).1 ((c :: r).take (firstOf (c :: r)).2) n) := by
  rw [sc, if_neg (by simp [h]), if_pos he]

theorem runOf_le (p : UInt8 → Bool) (l : List UInt8) : runOf p l ≤ l.length := by
  unfold runOf
  induction l with
  | nil => simp
  | cons c r ih =>
    rw [List.takeWhile_cons]
    split
    · simpa using ih
    · simp
theorem nameLen_le (l : List UInt8) : nameLen l ≤ l.length := by
  cases l with
  | nil => simp [nameLen]
  | cons c r =>
    show (if small c = true then runOf tailB (c :: r) else 0) ≤ _
    split
    · exact runOf_le _ _
    · simp
theorem signLen_le (l : List UInt8) : signLen l ≤ l.length := by
  unfold signLen
  split
  · rename_i h
    match l, h with
    | [], h => simp [twoB] at h
    | [c], h => simp [twoB, List.isPrefixOf] at h
    | c :: d :: r, _ => simp
  · cases l with
    | nil => simp
    | cons c r => simp only [List.length_cons]; split <;> omega
theorem firstOf_le (l : List UInt8) : (firstOf l).2 ≤ l.length := by
  unfold firstOf
  split
  · exact nameLen_le l
  · split
    · exact runOf_le _ l
    · split
      · exact signLen_le l
      · simp
theorem firstOf_zero (l : List UInt8) : (firstOf l).1 = 0 ↔ (firstOf l).2 = 0 := by
  unfold firstOf
  split
  · constructor
    · intro h; split at h <;> simp at h
    · intro h; have h' : nameLen l = 0 := h; omega
  · split
    · constructor
      · intro h; simp at h
      · intro h; have h' : runOf digit l = 0 := h; omega
    · split
      · constructor
        · intro h; simp at h
        · intro h; have h' : signLen l = 0 := h; omega
      · simp
theorem wrongOf_kind {k : Nat} {t : List UInt8} {n : Nat} (h : wrongOf k t n = 0) : k ≠ 0 := by
  intro e
  unfold wrongOf at h
  rw [if_pos e] at h
  cases h
theorem wrongOf_n {k : Nat} {t : List UInt8} {n : Nat} (h : wrongOf k t n = 0) : n < 4096 := by
  have hk := wrongOf_kind h
  unfold wrongOf at h
  rw [if_neg hk] at h
  split at h
  · cases h
  · omega
theorem sc_tok {c : UInt8} {r : List UInt8} {a n : Nat} (h : blankB c = false) (he : wrongOf (firstOf (c :: r)).1 ((c :: r).take (firstOf (c :: r)).2) n = 0) :
    sc (c :: r) 0 a n = (sc ((c :: r).drop (firstOf (c :: r)).2) 0 (a + (firstOf (c :: r)).2) (n + 1)).pre [⟨(firstOf (c :: r)).1, (c :: r).take (firstOf (c :: r)).2, a⟩] := by
  have hk := wrongOf_kind he
  have hs : (firstOf (c :: r)).2 ≠ 0 := fun e => hk ((firstOf_zero _).2 e)
  have hle := firstOf_le (c :: r)
  rw [sc, if_neg (by simp [h]), if_neg (by simp [he]), sc_skip _ _ _ _ (by simp at hle; omega)]
  generalize firstOf (c :: r) = p at hs
  obtain ⟨k, sz⟩ := p
  cases sz with
  | zero => exact absurd rfl hs
  | succ m =>
    show (sc (r.drop m) 0 (a + 1 + m) (n + 1)).pre _ = (sc (r.drop m) 0 (a + (m + 1)) (n + 1)).pre _
    rw [show a + 1 + m = a + (m + 1) from by omega]

/-- the state of a loop over the text: what is there of the tokens, and the rest -/
def St (s : List UInt8) (a : Nat) (acc : List Tok) : Prop := a ≤ s.length ∧ acc.length ≤ 4096 ∧ sc s 0 0 0 = (sc (s.drop a) 0 a acc.length).pre acc
theorem St.start (s : List UInt8) : St s 0 [] := ⟨Nat.zero_le _, by simp, by rw [Res.pre_nil]; rfl⟩
theorem drop_at {s : List UInt8} {a : Nat} (h : a < s.length) : s.drop a = s[a] :: s.drop (a + 1) := List.drop_eq_getElem_cons h
theorem St.blank {s : List UInt8} {a : Nat} {acc : List Tok} (h : St s a acc) (ha : a < s.length) (hb : blankB s[a] = true) : St s (a + 1) acc := by
  refine ⟨by omega, h.2.1, h.2.2.trans ?_⟩
  rw [drop_at ha, sc_blank hb]
theorem St.err {s : List UInt8} {a : Nat} {acc : List Tok} (h : St s a acc) (ha : a < s.length) (hb : blankB s[a] = false)
    (he : wrongOf (firstOf (s.drop a)).1 ((s.drop a).take (firstOf (s.drop a)).2) acc.length ≠ 0) : sc s 0 0 0 = .err a (wrongOf (firstOf (s.drop a)).1 ((s.drop a).take (firstOf (s.drop a)).2) acc.length) := by
  rw [h.2.2]
  rw [drop_at ha] at he ⊢
  rw [sc_err hb he]
  rfl
theorem St.tok {s : List UInt8} {a : Nat} {acc : List Tok} (h : St s a acc) (ha : a < s.length) (hb : blankB s[a] = false)
    (he : wrongOf (firstOf (s.drop a)).1 ((s.drop a).take (firstOf (s.drop a)).2) acc.length = 0) :
    St s (a + (firstOf (s.drop a)).2) (acc ++ [⟨(firstOf (s.drop a)).1, (s.drop a).take (firstOf (s.drop a)).2, a⟩]) ∧ 0 < (firstOf (s.drop a)).2 := by
  have hk := wrongOf_kind he
  have hs : (firstOf (s.drop a)).2 ≠ 0 := fun e => hk ((firstOf_zero _).2 e)
  have hle := firstOf_le (s.drop a)
  have hn := wrongOf_n he
  rw [List.length_drop] at hle
  refine ⟨⟨by omega, by simp; omega, h.2.2.trans ?_⟩, by omega⟩
  rw [← List.drop_drop]
  rw [drop_at ha] at he ⊢
  rw [sc_tok hb he, Res.pre_pre]
  simp
theorem St.stop {s : List UInt8} {a : Nat} {acc : List Tok} (h : St s a acc) (ha : ¬ a < s.length) : sc s 0 0 0 = .ok acc := by
  have := h.1
  rw [h.2.2, List.drop_of_length_le (by omega)]
  simp [sc, Res.pre]

theorem runOf_go {p : UInt8 → Bool} {l : List UInt8} {k : Nat} (hk : k < l.length) (hp : p l[k] = true) : runOf p (l.drop k) = 1 + runOf p (l.drop (k + 1)) := by
  rw [List.drop_eq_getElem_cons hk]
  unfold runOf
  rw [List.takeWhile_cons, if_pos hp]
  simp; omega
theorem runOf_no {p : UInt8 → Bool} {l : List UInt8} {k : Nat} (hk : k < l.length) (hp : p l[k] = false) : runOf p (l.drop k) = 0 := by
  rw [List.drop_eq_getElem_cons hk]
  unfold runOf
  rw [List.takeWhile_cons, if_neg (by simp [hp])]
  rfl
theorem runOf_end {p : UInt8 → Bool} {l : List UInt8} {k : Nat} (hk : ¬ k < l.length) : runOf p (l.drop k) = 0 := by
  rw [List.drop_of_length_le (by omega)]
  rfl

end Go.Proofs.YtadkimnpeachpaaGreatDoor
