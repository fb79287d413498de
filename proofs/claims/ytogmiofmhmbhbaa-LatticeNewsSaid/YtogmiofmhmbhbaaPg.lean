/- Plain: what Height computes is the length of the longest row of levels each below the next. -/
import Derived.Test.YtogmiofmhmbhbaaPf
namespace Go.Proofs.Ytogmiofmhmbhbaa

/-- a is below b -/
def Lt (U : List Nat) (a b : Nat) : Prop := B U a b ∧ a ≠ b
/-- a row of levels each below all that come -/
def Good (n : Nat) (U : List Nat) (row : List Nat) : Prop := (∀ y ∈ row, y < n) ∧ row.Pairwise (Lt U)
def HeightIs (n : Nat) (U : List Nat) (h : Nat) : Prop := (∃ row, Good n U row ∧ row.length = h) ∧ ∀ row, Good n U row → row.length ≤ h
theorem height_one {n : Nat} {U : List Nat} {h h' : Nat} (a : HeightIs n U h) (b : HeightIs n U h') : h = h' := by
  obtain ⟨⟨r, hr, rfl⟩, ha⟩ := a
  obtain ⟨⟨s, hs, rfl⟩, hb⟩ := b
  have := ha s hs
  have := hb r hr
  omega
theorem Lt.trans {n : Nat} {U : List Nat} (p : Pre n U) (q : Anti n U) {a b c : Nat} (ha : a < n) (h1 : Lt U a b) (h2 : Lt U b c) : Lt U a c := by
  refine ⟨p.trans a b c h1.1 h2.1, fun e => ?_⟩
  subst e
  exact h1.2 (q a b ha (p.top _ _ h1.1) h1.1 h2.1)
theorem height_turn {n : Nat} {U D : List Nat} (l : Latt n U D) {h : Nat} (a : HeightIs n U h) : HeightIs n D h := by
  have key : ∀ row, Good n D row ↔ Good n U row.reverse := by
    intro row
    unfold Good
    rw [List.pairwise_reverse]
    constructor
    · rintro ⟨h1, h2⟩
      exact ⟨fun y hy => h1 y (List.mem_reverse.1 hy), h2.imp fun {x y} hxy => ⟨(l.flip x y).1 hxy.1, fun e => hxy.2 e.symm⟩⟩
    · rintro ⟨h1, h2⟩
      exact ⟨fun y hy => h1 y (List.mem_reverse.2 hy), h2.imp fun {x y} hxy => ⟨(l.flip x y).2 hxy.1, fun e => hxy.2 e.symm⟩⟩
  obtain ⟨⟨r, hr, hl⟩, hm⟩ := a
  exact ⟨⟨r.reverse, (key _).2 (by rw [List.reverse_reverse]; exact hr), by simpa using hl⟩, fun row hrow => by have := hm _ ((key row).1 hrow); simpa using this⟩

/-- the longest row that ends at x is of length m -/
def Ends (n : Nat) (U : List Nat) (x m : Nat) : Prop :=
  (∃ row, Good n U (row ++ [x]) ∧ row.length + 1 = m) ∧ ∀ row, Good n U (row ++ [x]) → row.length + 1 ≤ m
theorem good_app {n : Nat} {U : List Nat} {row : List Nat} {x : Nat} : Good n U (row ++ [x]) ↔ Good n U row ∧ x < n ∧ ∀ y ∈ row, Lt U y x := by
  unfold Good
  rw [List.pairwise_append]
  constructor
  · rintro ⟨h1, h2, _, h3⟩
    exact ⟨⟨fun y hy => h1 y (List.mem_append.2 (.inl hy)), h2⟩, h1 x (by simp), fun y hy => h3 y hy x (by simp)⟩
  · rintro ⟨⟨h1, h2⟩, h3, h4⟩
    refine ⟨fun y hy => ?_, h2, by simp, fun y hy z hz => ?_⟩
    · rcases List.mem_append.1 hy with hy | hy
      · exact h1 y hy
      · simp at hy; omega
    · simp at hz; subst hz; exact h4 y hy

/-- the step: s is the greatest of the heights of those below x (0 if there is none) -/
theorem ends_step {n : Nat} {U : List Nat} (p : Pre n U) (q : Anti n U) {x s : Nat} (hx : x < n) (H : Nat → Nat) (hH : ∀ b, Lt U b x → Ends n U b (H b)) (h1 : ∀ b, Lt U b x → H b ≤ s) (h2 : s = 0 ∨ ∃ b, Lt U b x ∧ H b = s) : Ends n U x (s + 1) := by
  constructor
  · rcases h2 with rfl | ⟨b, hb, rfl⟩
    · exact ⟨[], good_app.2 ⟨⟨by simp, by simp⟩, hx, by simp⟩, rfl⟩
    · obtain ⟨row, hrow, hl⟩ := (hH b hb).1
      refine ⟨row ++ [b], good_app.2 ⟨hrow, hx, fun y hy => ?_⟩, by simp; omega⟩
      rcases List.mem_append.1 hy with hy | hy
      · have hyb := (good_app.1 hrow).2.2 y hy
        exact Lt.trans p q (hrow.1 y (List.mem_append.2 (.inl hy))) hyb hb
      · simp at hy; subst hy; exact hb
  · intro row hrow
    rcases List.eq_nil_or_concat row with rfl | ⟨row', b, rfl⟩
    · simp
    · rw [List.concat_eq_append] at hrow ⊢
      obtain ⟨g1, _, g2⟩ := good_app.1 hrow
      have hb := g2 b (by simp)
      have := (hH b hb).2 row' g1
      have := h1 b hb
      simp
      omega
theorem ends_pos {n : Nat} {U : List Nat} {x m : Nat} (h : Ends n U x m) : 1 ≤ m := by
  obtain ⟨⟨row, _, hl⟩, _⟩ := h
  omega
theorem ends_one {n : Nat} {U : List Nat} {x m m' : Nat} (h : Ends n U x m) (h' : Ends n U x m') : m = m' := by
  obtain ⟨⟨r, hr, e⟩, ha⟩ := h
  obtain ⟨⟨r', hr', e'⟩, ha'⟩ := h'
  have := ha r' hr'
  have := ha' r hr
  omega
/-- the greatest of all is the height -/
theorem height_of {n : Nat} {U : List Nat} (H : Nat → Nat) (t : Nat) (hH : ∀ x, x < n → Ends n U x (H x)) (h1 : ∀ x, x < n → H x ≤ t) (h2 : ∃ x, x < n ∧ H x = t) : HeightIs n U t := by
  constructor
  · obtain ⟨x, hx, rfl⟩ := h2
    obtain ⟨⟨row, hrow, hl⟩, _⟩ := hH x hx
    exact ⟨row ++ [x], hrow, by simpa using hl⟩
  · intro row hrow
    rcases List.eq_nil_or_concat row with rfl | ⟨row', b, rfl⟩
    · simp
    · rw [List.concat_eq_append] at hrow ⊢
      have hb := (good_app.1 hrow).2.1
      have := (hH b hb).2 row' hrow
      have := h1 b hb
      simp
      omega

/-! the walk of Height's loops -/
theorem gd_hgS (U : List Nat) (l : Nat) (hs : List Nat) (b x : Nat) (hl : l < hs.length) : gd (hgS U l hs b) x = if x = l then (if (gd U b).testBit l then max (gd hs l) (gd hs b) else gd hs l) else gd hs x := by
  unfold hgS
  by_cases hb : (gd U b).testBit l = true
  · rw [if_pos hb, gd_set _ _ _ _ hl]
    by_cases e : x = l
    · subst e; simp [hb]
    · have e2 : ¬ l = x := fun h => e h.symm
      simp [e, e2]
  · rw [if_neg hb]
    by_cases e : x = l
    · subst e; simp [hb]
    · simp [e]
theorem hgIn_other (U : List Nat) (l k : Nat) (hs : List Nat) (x : Nat) (hl : l < hs.length) (hx : x ≠ l) : gd (hgIn U l k hs) x = gd hs x := by
  induction k with
  | zero => rfl
  | succ k ih =>
    show gd (hgS U l (hgIn U l k hs) k) x = _
    rw [gd_hgS _ _ _ _ _ (by rw [hgIn_len]; exact hl), if_neg hx, ih]
theorem hgIn_sup (U : List Nat) (l k : Nat) (hs : List Nat) (hl : l < hs.length) :
    gd hs l ≤ gd (hgIn U l k hs) l ∧ (∀ b, b < k → b ≠ l → B U b l → gd hs b ≤ gd (hgIn U l k hs) l) ∧ (gd (hgIn U l k hs) l = gd hs l ∨ ∃ b, b < k ∧ b ≠ l ∧ B U b l ∧ gd hs b = gd (hgIn U l k hs) l) := by
  induction k with
  | zero => exact ⟨Nat.le_refl _, fun b hb => absurd hb (by omega), .inl rfl⟩
  | succ k ih =>
    obtain ⟨i1, i2, i3⟩ := ih
    have hst : gd (hgIn U l (k + 1) hs) l = if (gd U k).testBit l then max (gd (hgIn U l k hs) l) (gd (hgIn U l k hs) k) else gd (hgIn U l k hs) l := by
      show gd (hgS U l (hgIn U l k hs) k) l = _
      rw [gd_hgS _ _ _ _ _ (by rw [hgIn_len]; exact hl), if_pos rfl]
    rw [hst]
    by_cases hb : (gd U k).testBit l = true
    · rw [if_pos hb]
      by_cases e : k = l
      · have hmx : max (gd (hgIn U l k hs) l) (gd (hgIn U l k hs) k) = gd (hgIn U l k hs) l := by rw [e, Nat.max_self]
        rw [hmx]
        refine ⟨i1, fun b hbk hne hB => i2 b (by omega) hne hB, ?_⟩
        rcases i3 with h | ⟨b, h⟩
        · exact .inl h
        · exact .inr ⟨b, by omega, h.2⟩
      · rw [hgIn_other U l k hs k hl e]
        refine ⟨by omega, fun b hbk hne hB => ?_, ?_⟩
        · by_cases e2 : b = k
          · subst e2; omega
          · have := i2 b (by omega) hne hB; omega
        · by_cases hm : gd (hgIn U l k hs) l ≤ gd hs k
          · exact .inr ⟨k, by omega, e, hb, by omega⟩
          · rw [Nat.max_eq_left (by omega)]
            rcases i3 with h | ⟨b, h⟩
            · exact .inl h
            · exact .inr ⟨b, by omega, h.2⟩
    · rw [if_neg hb]
      refine ⟨i1, fun b hbk hne hB => ?_, ?_⟩
      · by_cases e2 : b = k
        · subst e2; exact absurd hB hb
        · exact i2 b (by omega) hne hB
      · rcases i3 with h | ⟨b, h⟩
        · exact .inl h
        · exact .inr ⟨b, by omega, h.2⟩

structure HInv (n : Nat) (U : List Nat) (ch : List Int) (t : Nat) (H : List Nat) (top : Nat) : Prop where
  zero : ∀ x, x < n → (∀ r, r < t → gi ch r ≠ (x : Int)) → gd H x = 0
  ends : ∀ r, r < t → Ends n U (gi ch r).toNat (gd H (gi ch r).toNat)
  le : ∀ r, r < t → gd H (gi ch r).toNat ≤ top
  hit : t = 0 ∨ ∃ r, r < t ∧ gd H (gi ch r).toNat = top
theorem chain_inj {n : Nat} {D : List Nat} {ch : List Int} (c : ChainOk n D ch) {r s : Nat} (hr : r < ch.length) (hs : s < ch.length) (h : gi ch r = gi ch s) : r = s := by
  have e1 : gi ch r = ch[r] := by unfold gi; simp [hr]
  have e2 : gi ch s = ch[s] := by unfold gi; simp [hs]
  rw [e1, e2] at h
  have hp := List.pairwise_iff_getElem.1 c.nd
  rcases Nat.lt_trichotomy r s with hlt | e | hlt
  · exact absurd h (hp r s hr hs hlt)
  · exact e
  · exact absurd h.symm (hp s r hs hr hlt)
theorem hInv_step {n : Nat} {U D : List Nat} (l : Latt n U D) {ch : List Int} (c : ChainOk n D ch) {t : Nat} (ht : t < ch.length) (h : HInv n U ch t (hgTo U (ch.take t)).1 (hgTo U (ch.take t)).2) :
    HInv n U ch (t + 1) (hgTo U (ch.take (t + 1))).1 (hgTo U (ch.take (t + 1))).2 := by
  have hlen : (hgTo U (ch.take t)).1.length = n := by rw [hgTo_len U ch t (by omega), l.pu.len]
  obtain ⟨H, hH⟩ : ∃ H, H = (hgTo U (ch.take t)).1 := ⟨_, rfl⟩
  obtain ⟨top, htop⟩ : ∃ top, top = (hgTo U (ch.take t)).2 := ⟨_, rfl⟩
  have hst := hgTo_succ U ch t ht
  have hz := c.range _ (gi_mem ht)
  obtain ⟨x, hx⟩ := Int.eq_ofNat_of_zero_le hz.1
  have hxn : x < n := by omega
  rw [hst, hx]
  unfold hgStep
  rw [← hH, ← htop]
  rw [← hH] at h hlen
  rw [← htop] at h
  simp only [Int.toNat_natCast, l.pu.len]
  have hxl : x < H.length := by omega
  obtain ⟨s1, s2, s3⟩ := hgIn_sup U x n H hxl
  have hHx : gd H x = 0 := h.zero x hxn (fun r hr e => by
    have := chain_inj c (by omega) ht (e.trans hx.symm)
    omega)
  obtain ⟨s, hs⟩ : ∃ s, s = gd (hgIn U x n H) x := ⟨_, rfl⟩
  rw [← hs] at s1 s2 s3 ⊢
  have hbelow : ∀ b, Lt U b x → ∃ r, r < t ∧ gi ch r = b := by
    intro b hb
    have := c.ord t ht b (by rw [hx]; exact (l.flip _ _).2 hb.1) (by rw [hx]; intro e; exact hb.2 (Int.ofNat.inj e))
    exact this
  have hEnds : Ends n U x (s + 1) := by
    refine ends_step l.pu l.au hxn (gd H) (fun b hb => ?_) (fun b hb => s2 b (by have := B_lt hb.1; rw [l.pu.len] at this; exact this) hb.2 hb.1) ?_
    · obtain ⟨r, hr, e⟩ := hbelow b hb
      have := h.ends r hr
      rw [e] at this
      exact this
    · rcases s3 with h3 | ⟨b, _, hne, hB, h3⟩
      · left; omega
      · exact .inr ⟨b, ⟨hB, hne⟩, h3⟩
  have gdn : ∀ y, gd ((hgIn U x n H).set x (s + 1)) y = if x = y then s + 1 else gd H y := by
    intro y
    rw [gd_set _ _ _ _ (by rw [hgIn_len]; exact hxl)]
    by_cases e : x = y
    · simp [e]
    · rw [if_neg e, if_neg e, hgIn_other _ _ _ _ _ hxl (fun e2 => e e2.symm)]
  have old : ∀ r, r < t → ¬ x = (gi ch r).toNat := by
    intro r hr e
    have h1 := c.range _ (gi_mem (show r < ch.length by omega))
    have := chain_inj c (show r < ch.length by omega) ht (by rw [hx]; omega)
    omega
  refine ⟨fun y hy hno => ?_, fun r hr => ?_, fun r hr => ?_, ?_⟩
  · rw [gdn, if_neg (fun e => hno t (by omega) (by rw [hx, e]))]
    exact h.zero y hy (fun r hr => hno r (by omega))
  · rw [gdn]
    by_cases e : r = t
    · subst e; rw [hx]; simpa using hEnds
    · rw [if_neg (old r (by omega))]; exact h.ends r (by omega)
  · rw [gdn]
    by_cases e : r = t
    · subst e; rw [hx]; simp; omega
    · rw [if_neg (old r (by omega))]; have := h.le r (by omega); omega
  · right
    by_cases hm : s + 1 ≤ top
    · rcases h.hit with h0 | ⟨r, hr, e⟩
      · exact ⟨t, by omega, by
          rw [gdn, hx]; simp
          have : (hgTo U (ch.take t)).2 = 0 := by rw [h0]; rfl
          omega⟩
      · exact ⟨r, by omega, by rw [gdn, if_neg (old r hr), e]; omega⟩
    · exact ⟨t, by omega, by rw [gdn, hx]; simp; omega⟩
theorem hInv {n : Nat} {U D : List Nat} (l : Latt n U D) {ch : List Int} (c : ChainOk n D ch) : ∀ t, t ≤ ch.length → HInv n U ch t (hgTo U (ch.take t)).1 (hgTo U (ch.take t)).2
  | 0, _ => ⟨fun x hx _ => by
      show gd (List.replicate U.length 0) x = 0
      unfold gd; simp [l.pu.len, hx], fun r hr => absurd hr (by omega), fun r hr => absurd hr (by omega), .inl rfl⟩
  | t + 1, ht => hInv_step l c (by omega) (hInv l c t (by omega))
theorem height_is {n : Nat} {U D : List Nat} (l : Latt n U D) (h0 : 0 < n) (h8 : n ≤ 8) : HeightIs n U (heightL U D) := by
  have c := chain_ok l.pd l.ad h8
  have h := hInv l c (chainL D).length (Nat.le_refl _)
  rw [List.take_of_length_le (Nat.le_refl _)] at h
  have pos : ∀ x, x < n → ∃ r, r < (chainL D).length ∧ gi (chainL D) r = x := fun x hx => mem_gi (c.all x hx)
  refine height_of (gd (hgTo U (chainL D)).1) _ (fun x hx => ?_) (fun x hx => ?_) ?_
  · obtain ⟨r, hr, e⟩ := pos x hx
    have := h.ends r hr
    rw [e] at this
    exact this
  · obtain ⟨r, hr, e⟩ := pos x hx
    have := h.le r hr
    rw [e] at this
    exact this
  · rcases h.hit with h1 | ⟨r, hr, e⟩
    · rw [c.len] at h1; omega
    · have h1 := c.range _ (gi_mem hr)
      exact ⟨(gi (chainL D) r).toNat, by omega, e⟩
theorem height_flip {n : Nat} {U D : List Nat} (l : Latt n U D) (h0 : 0 < n) (h8 : n ≤ 8) : heightL U D = heightL D U :=
  height_one (height_is l h0 h8) (height_turn l.turn (height_is l.turn h0 h8))
theorem height_range {n : Nat} {U D : List Nat} (l : Latt n U D) (h0 : 0 < n) (h8 : n ≤ 8) : 1 ≤ heightL U D ∧ heightL U D ≤ n := by
  obtain ⟨⟨row, hrow, hl⟩, hm⟩ := height_is l h0 h8
  constructor
  · have := hm [0] ⟨by simp; exact h0, by simp⟩
    simpa using this
  · have hnd : row.Nodup := hrow.2.imp fun {a b} hab => hab.2
    have := nodup_len row (List.range n) hnd (fun y hy => List.mem_range.2 (hrow.1 y hy))
    rw [hl] at this
    simpa using this
/-- of two places of the chain the later one's level is not at most the earlier one's -/
theorem chain_up {n : Nat} {U D : List Nat} (l : Latt n U D) {ch : List Int} (c : ChainOk n D ch) {i j : Nat} (hi : i < ch.length) (hj : j < i) {x y : Nat} (hx : gi ch i = x) (hy : gi ch j = y) : x ≠ y ∧ (gd U x).testBit y = false := by
  have hne : x ≠ y := by
    intro e
    have := chain_inj c hi (by omega : j < ch.length) (by rw [hx, hy, e])
    omega
  refine ⟨hne, ?_⟩
  cases h : (gd U x).testBit y
  · rfl
  · obtain ⟨r, hr, e⟩ := c.ord j (by omega) x (by rw [hy]; exact (l.flip y x).2 h) (by rw [hy]; intro e; exact hne (Int.ofNat.inj e))
    have := chain_inj c (by omega : r < ch.length) hi (by rw [e, hx])
    omega

end Go.Proofs.Ytogmiofmhmbhbaa
