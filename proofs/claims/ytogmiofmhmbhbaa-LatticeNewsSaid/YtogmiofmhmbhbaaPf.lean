/- Plain: Chain lists all levels, each behind all that are below it; Height is the length of the longest row of levels that rises. -/
import Derived.Test.YtogmiofmhmbhbaaPd
namespace Go.Proofs.Ytogmiofmhmbhbaa

theorem anot_bit (a b i : Nat) (hb : b < 256) (hi : i < 64) : (anot a b).testBit i = (a.testBit i && !b.testBit i) := by
  have e : 18446744073709551615 - b = 2 ^ 64 - (b + 1) := by omega
  unfold anot
  rw [Nat.testBit_and, e, Nat.testBit_two_pow_sub_succ (by omega)]
  simp [hi]
theorem nextB_iff {n : Nat} {D : List Nat} (p : Pre n D) (h8 : n ≤ 8) {dn k : Nat} (hd : dn < 256) (hk : k < n) : nextB D dn k = true ↔ dn.testBit k = false ∧ ∀ x, B D k x → x ≠ k → dn.testBit x = true := by
  have bit : ∀ x, (anot (gd D k) dn).testBit x = true ↔ B D k x ∧ dn.testBit x = false := by
    intro x
    by_cases hx : x < 64
    · rw [anot_bit _ _ _ hd hx]; unfold B; simp
    · constructor
      · intro h
        have h2 : (gd D k).testBit x = true := by
          unfold anot at h; rw [Nat.testBit_and] at h; simp at h; exact h.1
        have := p.top k x h2
        omega
      · intro h
        have := p.top k x h.1
        omega
  have e : nextB D dn k = true ↔ anot (gd D k) dn = pw k := by unfold nextB; simp
  rw [e]
  constructor
  · intro h
    have b2 : ∀ x, (B D k x ∧ dn.testBit x = false) ↔ k = x := fun x => by rw [← bit, h, pw_bit]
    refine ⟨((b2 k).2 rfl).2, fun x hx hne => ?_⟩
    cases hdx : dn.testBit x
    · exact absurd ((b2 x).1 ⟨hx, hdx⟩) (fun e => hne e.symm)
    · rfl
  · rintro ⟨h1, h2⟩
    apply Nat.eq_of_testBit_eq
    intro x
    rw [Bool.eq_iff_iff, bit, pw_bit]
    constructor
    · rintro ⟨h3, h4⟩
      by_cases e : k = x
      · exact e
      · rw [h2 x h3 (fun e2 => e e2.symm)] at h4; cases h4
    · rintro rfl
      exact ⟨p.refl k hk, h1⟩

theorem nodup_len {α : Type} [DecidableEq α] : ∀ (l m : List α), l.Nodup → (∀ x ∈ l, x ∈ m) → l.length ≤ m.length
  | [], m, _, _ => Nat.zero_le _
  | x :: l, m, hn, hs => by
    have hx := hs x (List.mem_cons_self ..)
    rw [List.nodup_cons] at hn
    have ih := nodup_len l (m.erase x) hn.2 (fun y hy => (List.mem_erase_of_ne (fun e => hn.1 (by rw [← e]; exact hy))).2 (hs y (List.mem_cons_of_mem _ hy)))
    rw [List.length_erase_of_mem hx] at ih
    have := List.length_pos_of_mem hx
    simp only [List.length_cons]
    omega
theorem cover_len : ∀ (n : Nat) (l : List Int), (∀ x : Nat, x < n → (x : Int) ∈ l) → n ≤ l.length
  | 0, _, _ => Nat.zero_le _
  | n + 1, l, h => by
    have hx := h n (by omega)
    have ih := cover_len n (l.erase (n : Int)) (fun x hx => (List.mem_erase_of_ne (by omega)).2 (h x (by omega)))
    rw [List.length_erase_of_mem hx] at ih
    have := List.length_pos_of_mem hx
    omega

/-- how many are at most a -/
def cnt (n : Nat) (D : List Nat) (a : Nat) : Nat := ((List.range n).filter fun x => (gd D a).testBit x).length
theorem filter_lt {l : List Nat} {p q : Nat → Bool} (h : ∀ x, p x = true → q x = true) {a : Nat} (ha : a ∈ l) (hq : q a = true) (hp : p a = false) : (l.filter p).length < (l.filter q).length := by
  induction l with
  | nil => simp at ha
  | cons x l ih =>
    have hle : (l.filter p).length ≤ (l.filter q).length := by
      clear ih ha
      induction l with
      | nil => simp
      | cons y l ih =>
        simp only [List.filter_cons]
        cases hpy : p y
        · cases q y <;> simp <;> omega
        · rw [h y hpy]; simpa using ih
    simp only [List.filter_cons]
    rcases List.mem_cons.1 ha with e | ha
    · subst e; simp [hp, hq]; omega
    · have := ih ha
      cases hpx : p x
      · cases q x <;> simp <;> omega
      · rw [h x hpx]; simpa using this
theorem cnt_lt {n : Nat} {D : List Nat} (p : Pre n D) (q : Anti n D) {a x : Nat} (ha : a < n) (h : B D a x) (hne : x ≠ a) : cnt n D x < cnt n D a := by
  have hx := p.top a x h
  refine filter_lt (fun y hy => p.trans a x y h hy) (List.mem_range.2 ha) (p.refl a ha) ?_
  cases e : (gd D x).testBit a
  · rfl
  · exact absurd (q x a hx ha e h) hne
theorem least_undone {n : Nat} {D : List Nat} (p : Pre n D) (q : Anti n D) (S : Nat → Prop) [DecidablePred S] : ∀ (c a : Nat), a < n → ¬ S a → cnt n D a ≤ c → ∃ k, k < n ∧ ¬ S k ∧ ∀ x, B D k x → x ≠ k → S x := by
  intro c
  induction c with
  | zero =>
    intro a ha hs hc
    refine ⟨a, ha, hs, fun x hx hne => ?_⟩
    have := cnt_lt p q ha hx hne
    omega
  | succ c ih =>
    intro a ha hs hc
    by_cases h : ∃ x, x < n ∧ B D a x ∧ x ≠ a ∧ ¬ S x
    · obtain ⟨x, hxn, hx, hne, hsx⟩ := h
      have := cnt_lt p q ha hx hne
      exact ih x hxn hsx (by omega)
    · refine ⟨a, ha, hs, fun x hx hne => ?_⟩
      by_cases hs2 : S x
      · exact hs2
      · exact absurd ⟨x, p.top a x hx, hx, hne, hs2⟩ h

/-- what has been listed so far: no level twice, each behind all below it -/
structure ChInv (n : Nat) (D : List Nat) (i : Nat) (ch : List Int) (dn : Nat) : Prop where
  len : ch.length = i
  mem : ∀ x : Nat, dn.testBit x = true ↔ (x : Int) ∈ ch
  nd : ch.Nodup
  ord : ∀ pos, pos < ch.length → ∀ x : Nat, B D (gi ch pos).toNat x → (x : Int) ≠ gi ch pos → ∃ r, r < pos ∧ gi ch r = x

theorem gi_app_left (xs ys : List Int) (k : Nat) (h : k < xs.length) : gi (xs ++ ys) k = gi xs k := by
  unfold gi; simp [List.getElem?_append_left h]
theorem gi_app_last (xs : List Int) (y : Int) : gi (xs ++ [y]) xs.length = y := by
  unfold gi; simp
theorem mem_gi {xs : List Int} {y : Int} (h : y ∈ xs) : ∃ r, r < xs.length ∧ gi xs r = y := by
  obtain ⟨r, hr, e⟩ := List.getElem_of_mem h
  exact ⟨r, hr, by unfold gi; simp [hr, e]⟩

theorem chInv_step {n : Nat} {D : List Nat} (p : Pre n D) (q : Anti n D) (h8 : n ≤ 8) {i : Nat} (hi : i < n) (h : ChInv n D i (chTo D i).1 (chTo D i).2) : ChInv n D (i + 1) (chTo D (i + 1)).1 (chTo D (i + 1)).2 := by
  have hd := chTo_bd D (by rw [p.len]; exact h8) i
  have hr := chTo_range D i
  rw [p.len] at hr
  obtain ⟨ch, hch⟩ : ∃ ch, ch = (chTo D i).1 := ⟨_, rfl⟩
  obtain ⟨dn, hdn⟩ : ∃ dn, dn = (chTo D i).2 := ⟨_, rfl⟩
  rw [← hch] at h hr
  rw [← hdn] at h hd
  have hex : ∃ a, a < n ∧ ¬ dn.testBit a = true := by
    apply Classical.byContradiction
    intro hno
    have := cover_len n ch (fun x hx => (h.mem x).1 (Classical.byContradiction fun h2 => hno ⟨x, hx, h2⟩))
    have := h.len
    omega
  obtain ⟨a, ha, hna⟩ := hex
  obtain ⟨k, hk, hnk, hmin⟩ := least_undone p q (fun x => dn.testBit x = true) _ a ha hna (Nat.le_refl _)
  have hnext : nextB D dn k = true := (nextB_iff p h8 hd hk).2 ⟨by simpa using hnk, hmin⟩
  have hpick : ∃ k, pick D dn = some k := by
    cases hp : pick D dn with
    | some j => exact ⟨j, rfl⟩
    | none =>
      unfold pick at hp
      rw [List.find?_eq_none] at hp
      exact absurd hnext (hp k (List.mem_range.2 (by rw [p.len]; exact hk)))
  obtain ⟨j, hj⟩ := hpick
  have hjn : j < n := by have := pick_lt hj; rwa [p.len] at this
  have hjnext : nextB D dn j = true := by
    unfold pick at hj
    exact List.find?_some hj
  obtain ⟨j1, j2⟩ := (nextB_iff p h8 hd hjn).1 hjnext
  have hstep : chTo D (i + 1) = (ch ++ [(j : Int)], dn ||| pw j) := by rw [hch, hdn]; exact chTo_hit (by rw [← hdn]; exact hj)
  rw [hstep]
  have hnotin : ¬ (j : Int) ∈ ch := fun hm => by rw [(h.mem j).2 hm] at j1; cases j1
  refine ⟨by simp [h.len], fun x => ?_, ?_, fun pos hpos x hx hne => ?_⟩
  · simp only [Nat.testBit_or, Bool.or_eq_true, pw_bit, List.mem_append, List.mem_singleton, h.mem]
    constructor
    · rintro (hx | rfl)
      · exact .inl hx
      · exact .inr rfl
    · rintro (hx | hx)
      · exact .inl hx
      · exact .inr (Int.ofNat.inj hx).symm
  · rw [List.nodup_append]
    refine ⟨h.nd, by simp, fun x hx y hy => ?_⟩
    simp at hy
    subst hy
    exact fun e => hnotin (by rw [← e]; exact hx)
  · rw [List.length_append, List.length_singleton] at hpos
    by_cases hlt : pos < ch.length
    · rw [gi_app_left _ _ _ hlt] at hx hne
      obtain ⟨r, hr1, hr2⟩ := h.ord pos hlt x hx hne
      exact ⟨r, hr1, by rw [gi_app_left _ _ _ (by omega)]; exact hr2⟩
    · obtain rfl : pos = ch.length := by omega
      rw [gi_app_last, Int.toNat_natCast] at hx
      rw [gi_app_last] at hne
      obtain ⟨r, hr1, hr2⟩ := mem_gi ((h.mem x).1 (j2 x hx (by omega)))
      exact ⟨r, hr1, by rw [gi_app_left _ _ _ hr1]; exact hr2⟩
theorem chInv {n : Nat} {D : List Nat} (p : Pre n D) (q : Anti n D) (h8 : n ≤ 8) : ∀ i, i ≤ n → ChInv n D i (chTo D i).1 (chTo D i).2
  | 0, _ => ⟨rfl, fun x => by simp [chTo], by simp [chTo], fun pos hp => absurd hp (by simp [chTo])⟩
  | i + 1, hi => chInv_step p q h8 (by omega) (chInv p q h8 i (by omega))

/-- the chain: all levels, each behind all that are below it -/
structure ChainOk (n : Nat) (D : List Nat) (ch : List Int) : Prop where
  len : ch.length = n
  nd : ch.Nodup
  range : ∀ z ∈ ch, 0 ≤ z ∧ z < n
  all : ∀ x : Nat, x < n → (x : Int) ∈ ch
  ord : ∀ pos, pos < ch.length → ∀ x : Nat, B D (gi ch pos).toNat x → (x : Int) ≠ gi ch pos → ∃ r, r < pos ∧ gi ch r = x
theorem chain_ok {n : Nat} {D : List Nat} (p : Pre n D) (q : Anti n D) (h8 : n ≤ 8) : ChainOk n D (chainL D) := by
  have h := chInv p q h8 n (Nat.le_refl _)
  unfold chainL
  rw [p.len]
  have hr := chTo_range D n
  rw [p.len] at hr
  refine ⟨h.len, h.nd, hr, fun x hx => ?_, h.ord⟩
  apply Classical.byContradiction
  intro hno
  have h1 := nodup_len ((x : Int) :: (chTo D n).1) ((List.range n).map fun y : Nat => (y : Int)) (List.nodup_cons.2 ⟨hno, h.nd⟩) (fun z hz => by
    rcases List.mem_cons.1 hz with rfl | hz
    · exact List.mem_map.2 ⟨x, List.mem_range.2 hx, rfl⟩
    · have := hr z hz
      exact List.mem_map.2 ⟨z.toNat, List.mem_range.2 (by omega), by omega⟩)
  have h2 := h.len
  simp at h1
  omega

end Go.Proofs.Ytogmiofmhmbhbaa
