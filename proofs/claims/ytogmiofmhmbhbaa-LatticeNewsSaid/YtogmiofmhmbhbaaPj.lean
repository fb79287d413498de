/- Plain: the ranks that LatticeHeight counts along the chain, and rows that rise. -/
import Derived.Test.YtogmiofmhmbhbaaPg
namespace Go.Proofs.Ytogmiofmhmbhbaa

/-! rows -/
/-- may the i-th of the row stand where it does? -/
def okAt (n : Nat) (U : List Nat) (row : List Int) (i : Nat) : Bool :=
  decide (0 ≤ gi row i) && decide (gi row i < n) && (decide (i = 0) || (decide (gi row (i - 1) ≠ gi row i) && mst U (gi row (i - 1)) (gi row i)))
def riseTo (n : Nat) (U : List Nat) (row : List Int) : Nat → Bool
  | 0 => decide (0 < row.length)
  | i + 1 => riseTo n U row i && okAt n U row i
theorem riseTo_ok {n : Nat} {U : List Nat} {row : List Int} : ∀ {i : Nat}, riseTo n U row i = true → ∀ r, r < i → okAt n U row r = true
  | 0, _, r, hr => absurd hr (by omega)
  | i + 1, h, r, hr => by
    unfold riseTo at h
    rw [Bool.and_eq_true] at h
    by_cases e : r = i
    · subst e; exact h.2
    · exact riseTo_ok h.1 r (by omega)
theorem okAt_range {n : Nat} {U : List Nat} {row : List Int} {i : Nat} (h : okAt n U row i = true) : 0 ≤ gi row i ∧ gi row i < n := by
  unfold okAt at h
  simp only [Bool.and_eq_true, decide_eq_true_eq] at h
  exact h.1
theorem rises_le {n : Nat} {U : List Nat} {h : Nat} (p : Pre n U) (q : Anti n U) (hh : HeightIs n U h) (row : List Int) (hr : riseTo n U row row.length = true) : row.length ≤ h := by
  have ok := fun r hr2 => riseTo_ok hr r hr2
  have step : ∀ r, r + 1 < row.length → Lt U (gi row r).toNat (gi row (r + 1)).toNat := by
    intro r hr2
    have h1 := okAt_range (ok r (by omega))
    have h2 := ok (r + 1) hr2
    have h3 := okAt_range h2
    unfold okAt at h2
    simp only [Bool.and_eq_true, Bool.or_eq_true, decide_eq_true_eq, Nat.add_sub_cancel] at h2
    rcases h2.2 with h4 | ⟨h4, h5⟩
    · omega
    · obtain ⟨a, ha⟩ := Int.eq_ofNat_of_zero_le h1.1
      obtain ⟨b, hb⟩ := Int.eq_ofNat_of_zero_le h3.1
      rw [ha, hb] at h4 h5
      rw [ha, hb]
      rw [mst_in U a b (by rw [p.len]; omega) (by rw [p.len]; omega)] at h5
      exact ⟨h5, fun e => h4 (by simp at e; omega)⟩
  have far : ∀ d r, r + d + 1 < row.length → Lt U (gi row r).toNat (gi row (r + d + 1)).toNat := by
    intro d
    induction d with
    | zero => intro r h; exact step r h
    | succ d ih =>
      intro r h
      have h1 := ih r (by omega)
      have h2 := step (r + d + 1) (by omega)
      have := okAt_range (ok r (by omega))
      exact Lt.trans p q (by omega) h1 h2
  have := hh.2 (row.map Int.toNat) ⟨fun y hy => by
      obtain ⟨z, hz, rfl⟩ := List.mem_map.1 hy
      obtain ⟨r, hr2, e⟩ := mem_gi hz
      have := okAt_range (ok r hr2)
      rw [e] at this
      omega, by
      rw [List.pairwise_iff_getElem]
      intro i j hi hj hij
      simp only [List.length_map] at hi hj
      have := far (j - i - 1) i (by omega)
      rw [show i + (j - i - 1) + 1 = j by omega] at this
      have e1 : gi row i = row[i] := by unfold gi; simp [hi]
      have e2 : gi row j = row[j] := by unfold gi; simp [hj]
      rw [e1, e2] at this
      simpa using this⟩
  simpa using this

/-! ranks -/
def rkS (U : List Nat) (x : Nat) (rs : List Nat) (y : Nat) : List Nat := if (gd U y).testBit x = true ∧ gd rs x ≤ gd rs y then rs.set x (gd rs y + 1) else rs
def rkIn (U : List Nat) (ch : List Int) (x : Nat) : Nat → List Nat → List Nat
  | 0, rs => rs
  | j + 1, rs => rkS U x (rkIn U ch x j rs) (gi ch j).toNat
def rkStep (U : List Nat) (ch : List Int) (s : List Nat × Nat) (i : Nat) : List Nat × Nat :=
  let x := (gi ch i).toNat
  let r1 := rkIn U ch x i (s.1.set x 1)
  (r1, if s.2 < gd r1 x then gd r1 x else s.2)
def rkTo (U : List Nat) (ch : List Int) : Nat → List Nat × Nat
  | 0 => (List.replicate 8 0, 0)
  | i + 1 => rkStep U ch (rkTo U ch i) i
theorem rkS_len (U : List Nat) (x : Nat) (rs : List Nat) (y : Nat) : (rkS U x rs y).length = rs.length := by unfold rkS; split <;> simp
theorem rkIn_len (U : List Nat) (ch : List Int) (x j : Nat) (rs : List Nat) : (rkIn U ch x j rs).length = rs.length := by
  induction j with
  | zero => rfl
  | succ j ih => exact (rkS_len _ _ _ _).trans ih
theorem rkTo_len (U : List Nat) (ch : List Int) (i : Nat) : (rkTo U ch i).1.length = 8 := by
  induction i with
  | zero => simp [rkTo]
  | succ i ih => show (rkIn _ _ _ _ _).length = 8; rw [rkIn_len]; simpa using ih
theorem rkS_le {t : Nat} (U : List Nat) (x : Nat) {rs : List Nat} (y : Nat) (h : Le t rs) : Le (t + 1) (rkS U x rs y) := by
  unfold rkS; split
  · exact (h.mono (by omega)).set _ (by have := h.gd y; omega)
  · exact h.mono (by omega)
theorem rkIn_other (U : List Nat) (ch : List Int) (x j : Nat) (rs : List Nat) (y : Nat) (hx : x < rs.length) (hy : y ≠ x) : gd (rkIn U ch x j rs) y = gd rs y := by
  induction j with
  | zero => rfl
  | succ j ih =>
    show gd (rkS U x (rkIn U ch x j rs) (gi ch j).toNat) y = _
    unfold rkS
    split
    · rw [gd_set _ _ _ _ (by rw [rkIn_len]; exact hx), if_neg (fun e => hy e.symm), ih]
    · exact ih
theorem rkIn_sup (U : List Nat) (ch : List Int) (x j : Nat) (rs : List Nat) (hx : x < rs.length) (h1 : gd rs x = 1) (hne : ∀ r, r < j → (gi ch r).toNat ≠ x) :
    (∀ r, r < j → B U (gi ch r).toNat x → gd rs (gi ch r).toNat + 1 ≤ gd (rkIn U ch x j rs) x) ∧ (gd (rkIn U ch x j rs) x = 1 ∨ ∃ r, r < j ∧ B U (gi ch r).toNat x ∧ gd rs (gi ch r).toNat + 1 = gd (rkIn U ch x j rs) x) ∧ 1 ≤ gd (rkIn U ch x j rs) x := by
  induction j with
  | zero => exact ⟨fun r hr => absurd hr (by omega), .inl h1, by show 1 ≤ gd rs x; omega⟩
  | succ j ih =>
    obtain ⟨i1, i2, i3⟩ := ih (fun r hr => hne r (by omega))
    have hoth := rkIn_other U ch x j rs (gi ch j).toNat hx (hne j (by omega))
    have hst : gd (rkIn U ch x (j + 1) rs) x = if (gd U (gi ch j).toNat).testBit x = true ∧ gd (rkIn U ch x j rs) x ≤ gd rs (gi ch j).toNat then gd rs (gi ch j).toNat + 1 else gd (rkIn U ch x j rs) x := by
      show gd (rkS U x (rkIn U ch x j rs) (gi ch j).toNat) x = _
      unfold rkS
      rw [hoth]
      split
      · rw [gd_set _ _ _ _ (by rw [rkIn_len]; exact hx), if_pos rfl]
      · rfl
    rw [hst]
    by_cases hc : (gd U (gi ch j).toNat).testBit x = true ∧ gd (rkIn U ch x j rs) x ≤ gd rs (gi ch j).toNat
    · rw [if_pos hc]
      refine ⟨fun r hr hB => ?_, .inr ⟨j, by omega, hc.1, rfl⟩, by omega⟩
      by_cases e : r = j
      · subst e; omega
      · have := i1 r (by omega) hB; omega
    · rw [if_neg hc]
      refine ⟨fun r hr hB => ?_, ?_, i3⟩
      · by_cases e : r = j
        · subst e
          apply Classical.byContradiction
          intro h2
          exact hc ⟨hB, by omega⟩
        · exact i1 r (by omega) hB
      · rcases i2 with h | ⟨r, h⟩
        · exact .inl h
        · exact .inr ⟨r, by omega, h.2⟩

structure RInv (n : Nat) (U : List Nat) (ch : List Int) (t : Nat) (rs : List Nat) (top : Nat) : Prop where
  ends : ∀ r, r < t → Ends n U (gi ch r).toNat (gd rs (gi ch r).toNat)
  le : ∀ r, r < t → gd rs (gi ch r).toNat ≤ top
  hit : (t = 0 ∧ top = 0) ∨ ∃ r, r < t ∧ gd rs (gi ch r).toNat = top
theorem rInv {n : Nat} {U D : List Nat} (l : Latt n U D) (h8 : n ≤ 8) {ch : List Int} (c : ChainOk n D ch) : ∀ t, t ≤ ch.length → RInv n U ch t (rkTo U ch t).1 (rkTo U ch t).2
  | 0, _ => ⟨fun r hr => absurd hr (by omega), fun r hr => absurd hr (by omega), .inl ⟨rfl, rfl⟩⟩
  | t + 1, ht => by
    have h := rInv l h8 c t (by omega)
    have hlen := rkTo_len U ch t
    have hz := c.range _ (gi_mem (show t < ch.length by omega))
    obtain ⟨x, hx⟩ := Int.eq_ofNat_of_zero_le hz.1
    have hxn : x < n := by omega
    show RInv n U ch (t + 1) (rkStep U ch (rkTo U ch t) t).1 (rkStep U ch (rkTo U ch t) t).2
    unfold rkStep
    rw [hx]
    simp only [Int.toNat_natCast]
    obtain ⟨rs, hrs⟩ : ∃ rs, rs = (rkTo U ch t).1 := ⟨_, rfl⟩
    obtain ⟨top, htop⟩ : ∃ top, top = (rkTo U ch t).2 := ⟨_, rfl⟩
    rw [← hrs, ← htop] at h ⊢
    rw [← hrs] at hlen
    have old : ∀ r, r < t → (gi ch r).toNat ≠ x := by
      intro r hr e
      have h1 := c.range _ (gi_mem (show r < ch.length by omega))
      have := chain_inj c (show r < ch.length by omega) (show t < ch.length by omega) (by rw [hx]; omega)
      omega
    have hset : ∀ y, y ≠ x → gd (rs.set x 1) y = gd rs y := fun y hy => by rw [gd_set _ _ _ _ (by omega), if_neg (fun e => hy e.symm)]
    obtain ⟨s1, s2, s3⟩ := rkIn_sup U ch x t (rs.set x 1) (by simp; omega) (by rw [gd_set _ _ _ _ (by omega), if_pos rfl]) old
    have hoth : ∀ y, y ≠ x → gd (rkIn U ch x t (rs.set x 1)) y = gd rs y := fun y hy => by rw [rkIn_other _ _ _ _ _ _ (by simp; omega) hy, hset y hy]
    obtain ⟨v, hv⟩ : ∃ v, v = gd (rkIn U ch x t (rs.set x 1)) x := ⟨_, rfl⟩
    rw [← hv] at s1 s2 s3 ⊢
    have hE : Ends n U x v := by
      have hbelow : ∀ b, Lt U b x → ∃ r, r < t ∧ gi ch r = b := fun b hb =>
        c.ord t (by omega) b (by rw [hx]; exact (l.flip _ _).2 hb.1) (by rw [hx]; intro e; exact hb.2 (Int.ofNat.inj e))
      have := ends_step (s := v - 1) l.pu l.au hxn (gd rs) (fun b hb => ?_) (fun b hb => ?_) ?_
      · rw [show v - 1 + 1 = v by omega] at this; exact this
      · obtain ⟨r, hr, e⟩ := hbelow b hb
        have := h.ends r hr
        rw [e] at this
        exact this
      · obtain ⟨r, hr, e⟩ := hbelow b hb
        have h1 := s1 r hr (by rw [e]; exact hb.1)
        rw [e, Int.toNat_natCast, hset b hb.2] at h1
        omega
      · rcases s2 with h2 | ⟨r, hr, hB, h2⟩
        · left; omega
        · right
          refine ⟨(gi ch r).toNat, ⟨hB, old r hr⟩, ?_⟩
          rw [hset _ (old r hr)] at h2
          omega
    refine ⟨fun r hr => ?_, fun r hr => ?_, ?_⟩
    · by_cases e : r = t
      · subst e; rw [hx]; simp only [Int.toNat_natCast]; rw [← hv]; exact hE
      · rw [hoth _ (old r (by omega))]; exact h.ends r (by omega)
    · by_cases e : r = t
      · subst e; rw [hx]; simp only [Int.toNat_natCast]; rw [← hv]; split <;> omega
      · rw [hoth _ (old r (by omega))]; have := h.le r (by omega); split <;> omega
    · right
      by_cases hm : top < v
      · rw [if_pos hm]; exact ⟨t, by omega, by rw [hx]; simp only [Int.toNat_natCast]; exact hv.symm⟩
      · rw [if_neg hm]
        rcases h.hit with ⟨_, h0⟩ | ⟨r, hr, e⟩
        · omega
        · exact ⟨r, by omega, by rw [hoth _ (old r hr)]; exact e⟩
theorem rk_final {n : Nat} {U D : List Nat} (l : Latt n U D) (h0 : 0 < n) (h8 : n ≤ 8) {ch : List Int} (c : ChainOk n D ch) :
    HeightIs n U (rkTo U ch ch.length).2 ∧ gd (rkTo U ch ch.length).1 (Bt D) = (rkTo U ch ch.length).2 := by
  have h := rInv l h8 c ch.length (Nat.le_refl _)
  obtain ⟨rs, hrs⟩ : ∃ rs, rs = (rkTo U ch ch.length).1 := ⟨_, rfl⟩
  obtain ⟨top, htop⟩ : ∃ top, top = (rkTo U ch ch.length).2 := ⟨_, rfl⟩
  rw [← hrs, ← htop] at h ⊢
  have pos : ∀ x, x < n → ∃ r, r < ch.length ∧ gi ch r = x := fun x hx => mem_gi (c.all x hx)
  have hE : ∀ x, x < n → Ends n U x (gd rs x) := fun x hx => by
    obtain ⟨r, hr, e⟩ := pos x hx
    have := h.ends r hr
    rw [e] at this
    exact this
  have hle : ∀ x, x < n → gd rs x ≤ top := fun x hx => by
    obtain ⟨r, hr, e⟩ := pos x hx
    have := h.le r hr
    rw [e] at this
    exact this
  have hhit : ∃ x, x < n ∧ gd rs x = top := by
    rcases h.hit with ⟨h1, _⟩ | ⟨r, hr, e⟩
    · rw [c.len] at h1; omega
    · have h1 := c.range _ (gi_mem hr)
      exact ⟨(gi ch r).toNat, by omega, e⟩
  refine ⟨height_of (gd rs) top hE hle hhit, ?_⟩
  obtain ⟨_, hT, hall⟩ := l.turn.Bt_spec h0
  obtain ⟨x, hx, ex⟩ := hhit
  have h1 := hle _ hT
  have h2 : gd rs x ≤ gd rs (Bt D) := by
    by_cases e : x = Bt D
    · rw [e]; exact Nat.le_refl _
    · obtain ⟨⟨row, hrow, hl⟩, _⟩ := hE x hx
      have hlt : Lt U x (Bt D) := ⟨(l.flip _ _).1 (hall x hx), e⟩
      have := (hE _ hT).2 (row ++ [x]) (good_app.2 ⟨hrow, hT, fun y hy => by
        rcases List.mem_append.1 hy with hy | hy
        · exact Lt.trans l.pu l.au (hrow.1 y (List.mem_append.2 (.inl hy))) ((good_app.1 hrow).2.2 y hy) hlt
        · simp at hy; subst hy; exact hlt⟩)
      simp at this
      omega
  omega
theorem rkIn_le {t : Nat} (U : List Nat) (ch : List Int) (x j : Nat) {rs : List Nat} (h : Le t rs) : Le (t + j) (rkIn U ch x j rs) := by
  induction j with
  | zero => exact h
  | succ j ih => exact rkS_le U x _ ih
theorem rkTo_le (U : List Nat) (ch : List Int) : ∀ i, i ≤ 8 → Le (i * 9) (rkTo U ch i).1 ∧ (rkTo U ch i).2 ≤ i * 9
  | 0, _ => ⟨fun x hx => by simp [rkTo] at hx; omega, Nat.le_refl _⟩
  | i + 1, hi => by
    obtain ⟨h1, h2⟩ := rkTo_le U ch i (by omega)
    have h3 : Le ((i + 1) * 9) (rkIn U ch (gi ch i).toNat i ((rkTo U ch i).1.set (gi ch i).toNat 1)) :=
      (rkIn_le U ch _ i ((h1.mono (show i * 9 ≤ i * 9 + 1 by omega)).set _ (by omega))).mono (by omega)
    refine ⟨h3, ?_⟩
    show (if _ then _ else _) ≤ _
    split
    · exact h3.gd _
    · omega

end Go.Proofs.Ytogmiofmhmbhbaa
