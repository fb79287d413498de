/- Plain: what reach computes is the least reflexive and transitive relation over the edges; turned turns it round. -/
import Derived.Test.YtogmiofmhmbhbaaPv
namespace Go.Proofs.Ytogmiofmhmbhbaa

/-- level b is in the set of level a -/
def B (xs : List Nat) (a b : Nat) : Prop := (gd xs a).testBit b = true
theorem gd_out {xs : List Nat} {k : Nat} (h : xs.length ≤ k) : gd xs k = 0 := by unfold gd; simp [h]
theorem B_lt {xs : List Nat} {a b : Nat} (h : B xs a b) : a < xs.length := by
  rcases Nat.lt_or_ge a xs.length with hlt | hge
  · exact hlt
  · unfold B at h; rw [gd_out hge] at h; simp at h
theorem B_or (xs : List Nat) (x v a b : Nat) (hx : x < xs.length) : B (xs.set x (gd xs x ||| v)) a b ↔ B xs a b ∨ (a = x ∧ v.testBit b = true) := by
  unfold B
  rw [gd_set xs x a _ hx]
  by_cases e : x = a
  · subst e; simp
  · have e2 : ¬ a = x := fun h => e h.symm
    simp [e, e2]
theorem pw_bit (a b : Nat) : (pw a).testBit b = true ↔ a = b := by unfold pw; rw [Nat.testBit_two_pow]; simp
theorem B_init (n a b : Nat) : B (initL n n) a b ↔ a < n ∧ a = b := by
  constructor
  · intro h
    have ha : a < n := by have := B_lt h; rwa [initL_len] at this
    refine ⟨ha, ?_⟩
    unfold B gd initL at h
    simp [ha] at h
    exact (pw_bit a b).1 h
  · rintro ⟨ha, rfl⟩
    unfold B gd initL
    simp [ha]
    exact (pw_bit a a).2 rfl
theorem B_addEs (n : Nat) : ∀ (es : List (Int × Int)) (xs : List Nat), xs.length = n → (∀ e ∈ es, 0 ≤ e.1 ∧ e.1 < n ∧ 0 ≤ e.2 ∧ e.2 < n) →
    ∀ a b, B (addEs xs es) a b ↔ B xs a b ∨ ((a : Int), (b : Int)) ∈ es
  | [], xs, _, _, a, b => by simp [addEs]
  | e :: es, xs, hl, he, a, b => by
    have h1 := he e (List.mem_cons_self ..)
    have ih := B_addEs n es (addE xs e) (by rw [addE_len]; exact hl) (fun e' h' => he e' (List.mem_cons_of_mem _ h')) a b
    show B (addEs (addE xs e) es) a b ↔ _
    rw [ih, addE, B_or xs e.1.toNat (pw e.2.toNat) a b (by omega), pw_bit, List.mem_cons]
    obtain ⟨e1, e2⟩ := e
    simp only [Prod.mk.injEq]
    simp only at h1
    constructor
    · rintro ((h | ⟨h2, h3⟩) | h)
      · exact .inl h
      · exact .inr (.inl ⟨by omega, by omega⟩)
      · exact .inr (.inr h)
    · rintro (h | ⟨h2, h3⟩ | h)
      · exact .inl (.inl h)
      · exact .inl (.inr ⟨by omega, by omega⟩)
      · exact .inr h
theorem B_rowS (m : Nat) (xs : List Nat) (l : Nat) (hl : l < xs.length) (a b : Nat) : B (rowS m xs l) a b ↔ B xs a b ∨ (a = l ∧ B xs l m ∧ B xs m b) := by
  unfold rowS
  by_cases h : (gd xs l).testBit m = true
  · rw [if_pos h, B_or xs l _ a b hl]
    have : B xs l m := h
    simp only [this, true_and]
    rfl
  · rw [if_neg h]
    have : ¬ B xs l m := h
    simp [this]
theorem B_rowL (m k : Nat) (xs : List Nat) (hk : k ≤ xs.length) (a b : Nat) : B (rowL m k xs) a b ↔ B xs a b ∨ (a < k ∧ B xs a m ∧ B xs m b) := by
  induction k generalizing a b with
  | zero => simp [rowL]
  | succ k ih =>
    rw [rowL_succ, B_rowS m _ k (by rw [rowL_len]; omega)]
    have i1 := ih (by omega) a b
    have i2 := ih (by omega) k m
    have i3 := ih (by omega) m b
    rw [i1, i2, i3]
    constructor
    · rintro ((h | ⟨h1, h2⟩) | ⟨rfl, h1, h2⟩)
      · exact .inl h
      · exact .inr ⟨by omega, h2⟩
      · have g1 : B xs a m := by
          rcases h1 with h1 | ⟨h1, h3, _⟩
          · exact h1
          · exact h3
        have g2 : B xs m b := by
          rcases h2 with h2 | ⟨_, _, h3⟩
          · exact h2
          · exact h3
        exact .inr ⟨by omega, g1, g2⟩
    · rintro (h | ⟨h1, h2, h3⟩)
      · exact .inl (.inl h)
      · by_cases e : a = k
        · exact .inr ⟨e, .inl (by rw [← e]; exact h2), .inl h3⟩
        · exact .inl (.inr ⟨by omega, h2, h3⟩)
theorem B_closeS (n k : Nat) (xs : List Nat) (hn : xs.length = n) (a b : Nat) : B (closeL n (k + 1) xs) a b ↔ B (closeL n k xs) a b ∨ (B (closeL n k xs) a k ∧ B (closeL n k xs) k b) := by
  rw [closeL_succ, B_rowL k n _ (by rw [closeL_len]; omega)]
  constructor
  · rintro (h | ⟨_, h⟩)
    · exact .inl h
    · exact .inr h
  · rintro (h | h)
    · exact .inl h
    · exact .inr ⟨by have := B_lt h.1; rw [closeL_len] at this; omega, h⟩
theorem close_more (n k : Nat) (xs : List Nat) (hn : xs.length = n) (a b : Nat) (h : B xs a b) : B (closeL n k xs) a b := by
  induction k with
  | zero => exact h
  | succ k ih => rw [B_closeS n k xs hn]; exact .inl ih
theorem close_trans (n k : Nat) (xs : List Nat) (hn : xs.length = n) : ∀ a x b, x < k → B (closeL n k xs) a x → B (closeL n k xs) x b → B (closeL n k xs) a b := by
  induction k with
  | zero => intro a x b hx; omega
  | succ k ih =>
    intro a x b hx h1 h2
    rw [B_closeS n k xs hn] at h1 h2 ⊢
    by_cases e : x = k
    · subst e
      right
      refine ⟨?_, ?_⟩
      · rcases h1 with h1 | h1
        · exact h1
        · exact h1.1
      · rcases h2 with h2 | h2
        · exact h2
        · exact h2.2
    · have hx' : x < k := by omega
      rcases h1 with h1 | ⟨h1, h1'⟩
      · rcases h2 with h2 | ⟨h2, h2'⟩
        · exact .inl (ih a x b hx' h1 h2)
        · exact .inr ⟨ih a x k hx' h1 h2, h2'⟩
      · rcases h2 with h2 | ⟨h2, h2'⟩
        · exact .inr ⟨h1, ih k x b hx' h1' h2⟩
        · exact .inr ⟨h1, h2'⟩
theorem close_least (n k : Nat) (xs : List Nat) (hn : xs.length = n) (S : Nat → Nat → Prop) (ht : ∀ a b c, S a b → S b c → S a c) (h0 : ∀ a b, B xs a b → S a b) : ∀ a b, B (closeL n k xs) a b → S a b := by
  induction k with
  | zero => exact h0
  | succ k ih =>
    intro a b h
    rw [B_closeS n k xs hn] at h
    rcases h with h | ⟨h1, h2⟩
    · exact ih a b h
    · exact ht a k b (ih a k h1) (ih k b h2)

/-- edges lead from a to b -/
def Leads (n : Nat) (es : List (Int × Int)) (a b : Nat) : Prop :=
  ∀ S : Nat → Nat → Prop, (∀ x, x < n → S x x) → (∀ x y z, S x y → S y z → S x z) → (∀ x y : Nat, ((x : Int), (y : Int)) ∈ es → S x y) → S a b
def RightEs (n : Nat) (es : List (Int × Int)) : Prop := ∀ e ∈ es, 0 ≤ e.1 ∧ e.1 < n ∧ 0 ≤ e.2 ∧ e.2 < n

/-- the sets of xs hold levels below n alone, and each is in its own -/
structure Pre (n : Nat) (xs : List Nat) : Prop where
  len : xs.length = n
  top : ∀ a b, B xs a b → b < n
  refl : ∀ a, a < n → B xs a a
  trans : ∀ a b c, B xs a b → B xs b c → B xs a c

theorem start_B (n : Nat) (es : List (Int × Int)) (he : RightEs n es) (a b : Nat) : B (addEs (initL n n) es) a b ↔ (a < n ∧ a = b) ∨ ((a : Int), (b : Int)) ∈ es := by
  rw [B_addEs n es _ (initL_len n n) he, B_init]
theorem start_len (n : Nat) (es : List (Int × Int)) : (addEs (initL n n) es).length = n := by rw [addEs_len, initL_len]
theorem start_top (n : Nat) (es : List (Int × Int)) (he : RightEs n es) (a b : Nat) (h : B (addEs (initL n n) es) a b) : a < n ∧ b < n := by
  rcases (start_B n es he a b).1 h with ⟨h1, rfl⟩ | h
  · exact ⟨h1, h1⟩
  · have := he _ h
    simp only at this
    omega
theorem reach_pre (n : Nat) (es : List (Int × Int)) (he : RightEs n es) : Pre n (reachL n es) := by
  have htop : ∀ a b, B (reachL n es) a b → a < n ∧ b < n :=
    close_least n n _ (start_len n es) (fun a b => a < n ∧ b < n) (fun a b c h1 h2 => ⟨h1.1, h2.2⟩) (start_top n es he)
  refine ⟨reachL_len n es, fun a b h => (htop a b h).2, fun a ha => ?_, fun a b c h1 h2 => ?_⟩
  · exact close_more n n _ (start_len n es) a a ((start_B n es he a a).2 (.inl ⟨ha, rfl⟩))
  · exact close_trans n n _ (start_len n es) a b c (htop a b h1).2 h1 h2
theorem reach_iff (n : Nat) (es : List (Int × Int)) (he : RightEs n es) (a b : Nat) : B (reachL n es) a b ↔ Leads n es a b := by
  constructor
  · intro h S s1 s2 s3
    refine close_least n n _ (start_len n es) S s2 (fun x y hxy => ?_) a b h
    rcases (start_B n es he x y).1 hxy with ⟨hx, rfl⟩ | hxy
    · exact s1 x hx
    · exact s3 x y hxy
  · intro h
    exact h (B (reachL n es)) (reach_pre n es he).refl (reach_pre n es he).trans (fun x y hxy => close_more n n _ (start_len n es) x y ((start_B n es he x y).2 (.inr hxy)))

theorem bits_eq {xs ys : List Nat} (hl : xs.length = ys.length) (h : ∀ a b, a < xs.length → (B xs a b ↔ B ys a b)) : xs = ys := by
  apply List.ext_getElem hl
  intro i h1 h2
  rw [← gd_lt h1, ← gd_lt h2]
  apply Nat.eq_of_testBit_eq
  intro j
  rw [Bool.eq_iff_iff]
  exact h i j h1

/-! turned -/
theorem B_turnS (l s : Nat) (xs : List Nat) (t : Nat) (ht : t < xs.length) (a b : Nat) : B (turnS l s xs t) a b ↔ B xs a b ∨ (a = t ∧ s.testBit t = true ∧ b = l) := by
  unfold turnS
  by_cases h : s.testBit t = true
  · rw [if_pos h, B_or xs t _ a b ht, pw_bit]
    simp only [h, true_and]
    constructor
    · rintro (x | ⟨x, y⟩)
      · exact .inl x
      · exact .inr ⟨x, y.symm⟩
    · rintro (x | ⟨x, y⟩)
      · exact .inl x
      · exact .inr ⟨x, y.symm⟩
  · rw [if_neg h]
    simp [h]
theorem B_turnR (l s k : Nat) (xs : List Nat) (hk : k ≤ xs.length) (a b : Nat) : B (turnR l s k xs) a b ↔ B xs a b ∨ (a < k ∧ s.testBit a = true ∧ b = l) := by
  induction k with
  | zero => simp [turnR]
  | succ k ih =>
    rw [turnR_succ, B_turnS l s _ k (by rw [turnR_len]; omega), ih (by omega)]
    constructor
    · rintro ((h | ⟨h1, h2⟩) | ⟨rfl, h2⟩)
      · exact .inl h
      · exact .inr ⟨by omega, h2⟩
      · exact .inr ⟨by omega, h2⟩
    · rintro (h | ⟨h1, h2⟩)
      · exact .inl (.inl h)
      · by_cases e : a = k
        · subst e; exact .inr ⟨rfl, h2⟩
        · exact .inl (.inr ⟨by omega, h2⟩)
theorem B_turnL (n k : Nat) (ss : List Nat) (a b : Nat) : B (turnL n k ss) a b ↔ a < n ∧ b < k ∧ B ss b a := by
  induction k with
  | zero =>
    constructor
    · intro h
      have ha := B_lt h
      rw [turnL_len] at ha
      unfold B at h
      rw [turnL_zero] at h
      unfold gd at h
      simp [ha] at h
    · rintro ⟨_, h, _⟩; omega
  | succ k ih =>
    rw [turnL_succ, B_turnR k (gd ss k) n _ (by rw [turnL_len]; omega), ih]
    constructor
    · rintro (⟨h1, h2, h3⟩ | ⟨h1, h2, rfl⟩)
      · exact ⟨h1, by omega, h3⟩
      · exact ⟨h1, by omega, h2⟩
    · rintro ⟨h1, h2, h3⟩
      by_cases e : b = k
      · subst e; exact .inr ⟨h1, h3, rfl⟩
      · exact .inl ⟨h1, by omega, h3⟩
theorem B_turned {n : Nat} {ss : List Nat} (hn : ss.length = n) (a b : Nat) (ha : a < n) : B (turnedL ss) a b ↔ B ss b a := by
  unfold turnedL
  rw [hn, B_turnL]
  constructor
  · exact fun h => h.2.2
  · exact fun h => ⟨ha, by have := B_lt h; omega, h⟩

end Go.Proofs.Ytogmiofmhmbhbaa
