/- Latches, plain: who holds what; rings, by the program and by the document: the same. -/
import Derived.Test.YtpdihmlilbccjaaRows
set_option linter.unusedVariables false
namespace Go.Proofs.Ytpdihmlilbccjaa

/-- who holds lock l -/
def holdM (hs : List Int) (l : Int) : Int := if 0 ≤ l ∧ l < hs.length then hs.getD l.toNat (-1) else -1
def takeM (hs : List Int) (l t : Int) : List Int × Bool := if 0 ≤ t ∧ 0 ≤ l ∧ l < hs.length ∧ hs.getD l.toNat (-1) = -1 then (hs.set l.toNat t, true) else (hs, false)
def dropM (hs : List Int) (l t : Int) : List Int × Bool := if 0 ≤ t ∧ 0 ≤ l ∧ l < hs.length ∧ hs.getD l.toNat (-1) = t then (hs.set l.toNat (-1), true) else (hs, false)
/-- the locks from k on that t holds -/
def heldFrom (t : Int) : List Int → Nat → List Int
  | [], _ => []
  | x :: xs, k => if x = t then (k : Int) :: heldFrom t xs (k + 1) else heldFrom t xs (k + 1)
def heldM (hs : List Int) (t : Int) : List Int := if t < 0 then [] else heldFrom t hs 0
structure Good (hs : List Int) : Prop where
  len : hs.length ≤ 8
  ok : ∀ x ∈ hs, -1 ≤ x ∧ x ≤ 9223372036854775807
theorem Good.set {hs : List Int} (h : Good hs) {i : Nat} {x : Int} (hx : -1 ≤ x ∧ x ≤ 9223372036854775807) : Good (hs.set i x) :=
  ⟨by simpa using h.len, fun y hy => by
    rcases List.mem_or_eq_of_mem_set hy with h1 | rfl
    · exact h.ok y h1
    · exact hx⟩
theorem Good.take {hs : List Int} (h : Good hs) (l t : Int) (ht : t ≤ 9223372036854775807) : Good (takeM hs l t).1 := by
  unfold takeM
  split
  · exact h.set ⟨by omega, ht⟩
  · exact h
theorem Good.drop {hs : List Int} (h : Good hs) (l t : Int) : Good (dropM hs l t).1 := by
  unfold dropM
  split
  · exact h.set ⟨by omega, by omega⟩
  · exact h
theorem take_len (hs : List Int) (l t : Int) : (takeM hs l t).1.length = hs.length := by unfold takeM; split <;> simp
theorem drop_len (hs : List Int) (l t : Int) : (dropM hs l t).1.length = hs.length := by unfold dropM; split <;> simp
theorem Good.hold {hs : List Int} (h : Good hs) (l : Int) : -1 ≤ holdM hs l ∧ holdM hs l ≤ 9223372036854775807 := by
  unfold holdM
  split
  · rename_i hl
    have hk : l.toNat < hs.length := by omega
    rw [List.getD_eq_getElem?_getD, List.getElem?_eq_getElem hk]
    exact h.ok _ (List.getElem_mem hk)
  · omega
theorem hold_mem {hs : List Int} {l : Int} (h : 0 ≤ holdM hs l) : holdM hs l ∈ hs := by
  unfold holdM at h ⊢
  split
  · rename_i hl
    have hk : l.toNat < hs.length := by omega
    rw [List.getD_eq_getElem?_getD, List.getElem?_eq_getElem hk]
    exact List.getElem_mem hk
  · rename_i hl
    rw [if_neg hl] at h
    omega
def newM (n : Int) : List Int := List.replicate (min (max n 0) 8).toNat (-1)
theorem good_new (n : Int) : Good (newM n) := ⟨by unfold newM; simp; omega, fun x hx => by
  unfold newM at hx
  have := (List.mem_replicate.1 hx).2
  omega⟩

section
variable (hs ws : List Int)
/-- there is such a thread -/
def Inr (t : Int) : Prop := 0 ≤ t ∧ t < ws.length
instance (t : Int) : Decidable (Inr ws t) := inferInstanceAs (Decidable (_ ∧ _))
/-- who holds what thread t waits for -/
def nxt (t : Int) : Int := holdM hs (ws.getD t.toNat (-1))
/-- the program's walk -/
def rfM (first : Int) : Nat → Int → List Int → Option (List Int)
  | 0, _, _ => none
  | k + 1, t, acc => if Inr ws t then (if nxt hs ws t = first then some (acc ++ [t]) else rfM first k (nxt hs ws t) (acc ++ [t])) else none
def ringFromM (first : Int) : Option (List Int) := rfM hs ws first hs.length first []
def ringM : List Int := ((hs.mergeSort fun x y => decide (x ≤ y)).findSome? (ringFromM hs ws)).getD []
/-- the document's walk -/
def rrM (first : Int) : Nat → Int → List Int → Option (List Int)
  | 0, _, _ => none
  | k + 1, t, acc => if nxt hs ws t = first then some acc else if nxt hs ws t < first ∨ (ws.length : Int) ≤ nxt hs ws t then none else rrM first k (nxt hs ws t) (acc ++ [nxt hs ws t])
def rrFrom (first : Nat) : Option (List Int) := rrM hs ws first ws.length first [(first : Int)]
def ringR : List Int := ((List.range ws.length).findSome? (rrFrom hs ws)).getD []

/-- from t on the threads ys, each waiting for the next one, the last one for first -/
inductive Path (first : Int) : Int → List Int → Prop
  | last {t : Int} : Inr ws t → nxt hs ws t = first → Path first t [t]
  | cons {t : Int} {ys : List Int} : Inr ws t → nxt hs ws t ≠ first → Path first (nxt hs ws t) ys → Path first t (t :: ys)
variable {hs ws}
theorem Path.det {first t : Int} {ys zs : List Int} (h : Path hs ws first t ys) : Path hs ws first t zs → ys = zs := by
  induction h generalizing zs with
  | last h1 h2 =>
    intro h'
    cases h' with
    | last => rfl
    | cons _ h3 _ => exact absurd h2 h3
  | cons h1 h2 h3 ih =>
    intro h'
    cases h' with
    | last _ h4 => exact absurd h4 h2
    | cons _ _ h5 => rw [ih h5]
theorem Path.inr {first t : Int} {ys : List Int} (h : Path hs ws first t ys) : ∀ y ∈ ys, Inr ws y := by
  induction h with
  | last h1 _ => intro y hy; simp at hy; subst hy; exact h1
  | cons h1 _ _ ih => intro y hy; rcases List.mem_cons.1 hy with rfl | hy
                      · exact h1
                      · exact ih y hy
theorem Path.ne {first t : Int} {ys : List Int} (h : Path hs ws first t ys) : ∃ zs, ys = t :: zs := by cases h <;> exact ⟨_, rfl⟩
theorem Path.suffix {first t : Int} {ys : List Int} (h : Path hs ws first t ys) : ∀ y ∈ ys, ∃ zs, Path hs ws first y zs ∧ zs.length ≤ ys.length := by
  induction h with
  | last h1 h2 => intro y hy; simp at hy; subst hy; exact ⟨_, .last h1 h2, Nat.le_refl _⟩
  | cons h1 h2 h3 ih =>
    intro y hy
    rcases List.mem_cons.1 hy with rfl | hy
    · exact ⟨_, .cons h1 h2 h3, Nat.le_refl _⟩
    · obtain ⟨zs, h4, h5⟩ := ih y hy
      exact ⟨zs, h4, by simp; omega⟩
theorem Path.nodup {first t : Int} {ys : List Int} (h : Path hs ws first t ys) : ys.Nodup := by
  induction h with
  | last => simp
  | @cons t ys h1 h2 h3 ih =>
    refine List.nodup_cons.2 ⟨fun hm => ?_, ih⟩
    obtain ⟨zs, h4, h5⟩ := h3.suffix t hm
    have := (Path.cons h1 h2 h3).det h4
    rw [← this] at h5
    simp only [List.length_cons] at h5
    omega
/-- each is held by by a lock's holder -/
theorem Path.holders {first t : Int} {ys : List Int} (h : Path hs ws first t ys) (h0 : 0 ≤ first) : ∀ y ∈ ys, y = t ∨ y ∈ hs := by
  induction h with
  | last h1 h2 => intro y hy; simp at hy; exact .inl hy
  | @cons t ys h1 h2 h3 ih =>
    intro y hy
    rcases List.mem_cons.1 hy with rfl | hy
    · exact .inl rfl
    · rcases ih y hy with rfl | h4
      · right
        have := (h3.inr _ hy).1
        exact hold_mem this
      · exact .inr h4
theorem Path.mem {first t : Int} {ys : List Int} (h : Path hs ws first t ys) (h0 : 0 ≤ first) : first ∈ hs := by
  induction h with
  | last h1 h2 => rw [← h2] at h0 ⊢; exact hold_mem h0
  | cons _ _ _ ih => exact ih
end
theorem nodup_le {α : Type} [DecidableEq α] : ∀ {xs ys : List α}, xs.Nodup → (∀ x ∈ xs, x ∈ ys) → xs.length ≤ ys.length
  | [], _, _, _ => by simp
  | x :: xs, ys, h, hm => by
    have h1 := List.nodup_cons.1 h
    have := nodup_le (xs := xs) (ys := ys.erase x) h1.2 fun y hy => (List.mem_erase_of_ne (fun e => h1.1 (by rw [← e]; exact hy))).2 (hm y (by simp [hy]))
    have hx := hm x (by simp)
    rw [List.length_erase_of_mem hx] at this
    have : 0 < ys.length := List.length_pos_of_mem hx
    simp
    omega
section
variable {hs ws : List Int}
theorem Path.le_locks {first : Int} {ys : List Int} (h : Path hs ws first first ys) : ys.length ≤ hs.length := by
  obtain ⟨zs, rfl⟩ := h.ne
  have h0 : 0 ≤ first := (h.inr first (by simp)).1
  exact nodup_le h.nodup fun y hy => by
    rcases h.holders h0 y hy with rfl | h1
    · exact h.mem h0
    · exact h1
theorem Path.le_threads {first t : Int} {ys : List Int} (h : Path hs ws first t ys) : ys.length ≤ ws.length := by
  have := nodup_le (xs := ys) (ys := (List.range ws.length).map fun (i : Nat) => (i : Int)) h.nodup fun y hy => by
    have h1 := h.inr y hy
    unfold Inr at h1
    exact List.mem_map.2 ⟨y.toNat, by simp; omega, by omega⟩
  simpa using this

theorem rfM_path {first : Int} : ∀ {k : Nat} {t : Int} {acc r : List Int}, rfM hs ws first k t acc = some r → ∃ ys, Path hs ws first t ys ∧ r = acc ++ ys
  | 0, t, acc, r, h => by simp [rfM] at h
  | k + 1, t, acc, r, h => by
    rw [rfM] at h
    split at h
    · rename_i h1
      split at h
      · rename_i h2
        injection h with h
        exact ⟨[t], .last h1 h2, h.symm⟩
      · rename_i h2
        obtain ⟨ys, h3, h4⟩ := rfM_path h
        exact ⟨t :: ys, .cons h1 h2 h3, by rw [h4]; simp⟩
    · cases h
theorem path_rfM {first t : Int} {ys : List Int} (h : Path hs ws first t ys) : ∀ {k : Nat} (acc : List Int), ys.length ≤ k → rfM hs ws first k t acc = some (acc ++ ys) := by
  induction h with
  | last h1 h2 =>
    intro k acc hk
    obtain ⟨k, rfl⟩ : ∃ j, k = j + 1 := ⟨k - 1, by simp at hk; omega⟩
    rw [rfM, if_pos h1, if_pos h2]
  | @cons t ys h1 h2 h3 ih =>
    intro k acc hk
    obtain ⟨k, rfl⟩ : ∃ j, k = j + 1 := ⟨k - 1, by simp at hk; omega⟩
    rw [rfM, if_pos h1, if_neg h2, ih _ (by simp at hk; omega)]
    simp
theorem ringFrom_iff {first : Int} {r : List Int} : ringFromM hs ws first = some r ↔ Path hs ws first first r := by
  constructor
  · intro h
    obtain ⟨ys, h1, h2⟩ := rfM_path h
    rw [h2]
    exact h1
  · intro h
    have := path_rfM h (k := hs.length) [] h.le_locks
    simpa [ringFromM] using this
theorem rrM_path {first : Int} : ∀ {k : Nat} {t : Int} {acc r : List Int}, Inr ws t → 0 ≤ first → rrM hs ws first k t acc = some r → ∃ ys, Path hs ws first t (t :: ys) ∧ r = acc ++ ys
  | 0, t, acc, r, _, _, h => by simp [rrM] at h
  | k + 1, t, acc, r, ht, h0, h => by
    rw [rrM] at h
    split at h
    · rename_i h2
      injection h with h
      exact ⟨[], .last ht h2, by simp [h]⟩
    · rename_i h2
      split at h
      · cases h
      · rename_i h3
        obtain ⟨ys, h4, h5⟩ := rrM_path (t := nxt hs ws t) ⟨by omega, by omega⟩ h0 h
        exact ⟨nxt hs ws t :: ys, .cons ht h2 h4, by rw [h5]; simp⟩
theorem path_rrM {first t : Int} {ys : List Int} (h : Path hs ws first t ys) : ∀ {k : Nat} {zs : List Int} (acc : List Int), ys = t :: zs → (∀ y ∈ ys, first ≤ y) → ys.length ≤ k → rrM hs ws first k t acc = some (acc ++ zs) := by
  induction h with
  | last h1 h2 =>
    intro k zs acc he hle hk
    obtain ⟨k, rfl⟩ : ∃ j, k = j + 1 := ⟨k - 1, by simp at hk; omega⟩
    injection he with _ he
    rw [rrM, if_pos h2, ← he, List.append_nil]
  | @cons t ys h1 h2 h3 ih =>
    intro k zs acc he hle hk
    obtain ⟨k, rfl⟩ : ∃ j, k = j + 1 := ⟨k - 1, by simp at hk; omega⟩
    injection he with _ he
    subst he
    obtain ⟨us, rfl⟩ := h3.ne
    have hin := h3.inr (nxt hs ws t) (by simp)
    have hge := hle (nxt hs ws t) (by simp)
    unfold Inr at hin
    rw [rrM, if_neg h2, if_neg (by omega), ih (zs := us) _ rfl (fun y hy => hle y (by simp at hy ⊢; right; exact hy)) (by simp at hk ⊢; omega)]
    simp

/-- y is reached from x by k steps -/
def Reach (hs ws : List Int) : Nat → Int → Int → Prop
  | 0, x, y => x = y
  | k + 1, x, y => Inr ws x ∧ Reach hs ws k (nxt hs ws x) y
theorem Reach.add : ∀ {a b : Nat} {x y z : Int}, Reach hs ws a x y → Reach hs ws b y z → Reach hs ws (a + b) x z
  | 0, b, x, y, z, h, h' => by rw [Nat.zero_add]; cases h; exact h'
  | a + 1, b, x, y, z, h, h' => by rw [Nat.add_right_comm]; exact ⟨h.1, Reach.add h.2 h'⟩
theorem Reach.path {first : Int} : ∀ {k : Nat} {t : Int}, Reach hs ws (k + 1) t first → ∃ ys, Path hs ws first t ys
  | 0, t, h => ⟨_, .last h.1 h.2⟩
  | k + 1, t, h => by
    by_cases h2 : nxt hs ws t = first
    · exact ⟨_, .last h.1 h2⟩
    · obtain ⟨ys, h3⟩ := Reach.path h.2
      exact ⟨_, .cons h.1 h2 h3⟩
theorem Path.reach {first t : Int} {ys : List Int} (h : Path hs ws first t ys) : ∀ y ∈ ys, ∃ a b, Reach hs ws a t y ∧ Reach hs ws (b + 1) y first := by
  induction h with
  | last h1 h2 => intro y hy; simp at hy; subst hy; exact ⟨0, 0, rfl, h1, h2⟩
  | @cons t ys h1 h2 h3 ih =>
    intro y hy
    rcases List.mem_cons.1 hy with rfl | hy
    · obtain ⟨zs, hz⟩ := h3.ne
      obtain ⟨a, b, -, h5⟩ := ih (nxt hs ws y) (by rw [hz]; simp)
      exact ⟨0, b + 1, rfl, h1, h5⟩
    · obtain ⟨a, b, h4, h5⟩ := ih y hy
      exact ⟨a + 1, b, ⟨h1, h4⟩, h5⟩
/-- whoever is in a ring has a ring -/
theorem Path.turn {first : Int} {ys : List Int} (h : Path hs ws first first ys) {y : Int} (hy : y ∈ ys) : ∃ zs, Path hs ws y y zs := by
  obtain ⟨a, b, h1, h2⟩ := h.reach y hy
  have := h2.add h1
  rw [show b + 1 + a = (b + a) + 1 from by omega] at this
  exact this.path

theorem find_first {α : Type} {f : Int → Option α} : ∀ {xs : List Int} {m : Int} {r : α}, xs.Pairwise (· ≤ ·) → m ∈ xs → f m = some r → (∀ x ∈ xs, x < m → f x = none) → xs.findSome? f = some r
  | x :: xs, m, r, hp, hm, hf, hn => by
    rw [List.findSome?_cons]
    rcases Int.lt_trichotomy x m with h | rfl | h
    · rw [hn x (by simp) h]
      have hm' : m ∈ xs := by
        rcases List.mem_cons.1 hm with rfl | h'
        · omega
        · exact h'
      exact find_first (List.pairwise_cons.1 hp).2 hm' hf fun y hy => hn y (by simp [hy])
    · rw [hf]
    · rcases List.mem_cons.1 hm with rfl | h'
      · omega
      · have := (List.pairwise_cons.1 hp).1 m h'
        omega
/-- what a ring is, of all rings the least -/
theorem ring_cases (hs ws : List Int) : (ringM hs ws = [] ∧ ringR hs ws = [] ∧ ∀ x ys, ¬ Path hs ws x x ys) ∨
    (∃ x r, ringM hs ws = r ∧ ringR hs ws = r ∧ Path hs ws x x r ∧ ∀ y ∈ r, x ≤ y) := by
  by_cases hex : ∃ n : Nat, ∃ ys, Path hs ws n n ys
  · right
    obtain ⟨m, ⟨r, hr⟩, hmin⟩ : ∃ m : Nat, (∃ ys, Path hs ws m m ys) ∧ ∀ j : Nat, j < m → ¬ ∃ ys, Path hs ws j j ys := by
      obtain ⟨n, hn⟩ := hex
      induction n using Nat.strongRecOn with
      | _ n ih =>
        by_cases hj : ∃ j : Nat, j < n ∧ ∃ ys, Path hs ws j j ys
        · obtain ⟨j, h1, h2⟩ := hj
          exact ih j h1 h2
        · exact ⟨n, hn, fun j h1 h2 => hj ⟨j, h1, h2⟩⟩
    have hge : ∀ x ys, Path hs ws x x ys → (m : Int) ≤ x := fun x ys h => by
      obtain ⟨zs, rfl⟩ := h.ne
      have hx := (h.inr x (by simp)).1
      obtain ⟨j, rfl⟩ : ∃ j : Nat, x = j := ⟨x.toNat, by omega⟩
      rcases Nat.lt_or_ge j m with h1 | h1
      · exact absurd ⟨_, h⟩ (hmin j h1)
      · omega
    have hall : ∀ y ∈ r, (m : Int) ≤ y := fun y hy => by
      obtain ⟨zs, hz⟩ := hr.turn hy
      exact hge y zs hz
    have hmt : m < ws.length := by
      obtain ⟨zs, hz⟩ := hr.ne
      have := hr.inr (m : Int) (by rw [hz]; simp)
      unfold Inr at this
      omega
    refine ⟨m, r, ?_, ?_, hr, hall⟩
    · unfold ringM
      rw [find_first (m := (m : Int)) (r := r) ?_ ?_ (ringFrom_iff.2 hr) ?_]
      · rfl
      · have := List.pairwise_mergeSort (le := fun x y : Int => decide (x ≤ y)) (fun a b c h1 h2 => by simp at h1 h2 ⊢; omega) (fun a b => by simp; omega) hs
        exact this.imp (by simp)
      · exact List.mem_mergeSort.2 (hr.mem (by omega))
      · intro x _ hx
        cases hf : ringFromM hs ws x with
        | none => rfl
        | some q => have := hge x q (ringFrom_iff.1 hf); omega
    · unfold ringR
      have : (List.range ws.length).findSome? (rrFrom hs ws) = ((List.range ws.length).map fun (i : Nat) => (i : Int)).findSome? (fun i => rrFrom hs ws i.toNat) := by
        rw [List.findSome?_map]
        rfl
      rw [this, find_first (m := (m : Int)) (r := r) ?_ ?_ ?_ ?_]
      · rfl
      · rw [List.pairwise_map]
        exact List.pairwise_lt_range.imp (by omega)
      · exact List.mem_map.2 ⟨m, by simpa using hmt, rfl⟩
      · obtain ⟨zs, hz⟩ := hr.ne
        show rrM hs ws (m : Int) ws.length m [(m : Int)] = some r
        rw [path_rrM hr _ hz hall hr.le_threads, hz]
        rfl
      · intro x hx hlt
        obtain ⟨j, hj, rfl⟩ := List.mem_map.1 hx
        simp at hj
        show rrM hs ws (j : Int) ws.length j [(j : Int)] = none
        cases hf : rrM hs ws (j : Int) ws.length j [(j : Int)] with
        | none => rfl
        | some q =>
          obtain ⟨ys, h1, -⟩ := rrM_path ⟨by omega, by omega⟩ (by omega) hf
          have := hge _ _ h1
          omega
  · left
    have hno : ∀ x ys, ¬ Path hs ws x x ys := fun x ys h => by
      obtain ⟨zs, rfl⟩ := h.ne
      have hx := (h.inr x (by simp)).1
      obtain ⟨j, rfl⟩ : ∃ j : Nat, x = j := ⟨x.toNat, by omega⟩
      exact hex ⟨j, _, h⟩
    refine ⟨?_, ?_, hno⟩
    · unfold ringM
      rw [List.findSome?_eq_none_iff.2 fun x _ => ?_]
      · rfl
      · cases hf : ringFromM hs ws x with
        | none => rfl
        | some q => exact absurd (ringFrom_iff.1 hf) (hno x q)
    · unfold ringR
      rw [List.findSome?_eq_none_iff.2 fun j hj => ?_]
      · rfl
      · simp at hj
        show rrM hs ws (j : Int) ws.length j [(j : Int)] = none
        cases hf : rrM hs ws (j : Int) ws.length j [(j : Int)] with
        | none => rfl
        | some q =>
          obtain ⟨ys, h1, -⟩ := rrM_path ⟨by omega, by omega⟩ (by omega) hf
          exact absurd h1 (hno _ _)
theorem ring_same (hs ws : List Int) : ringM hs ws = ringR hs ws := by
  rcases ring_cases hs ws with ⟨h1, h2, -⟩ | ⟨x, r, h1, h2, -⟩ <;> rw [h1, h2]
end

end Go.Proofs.Ytpdihmlilbccjaa
