/- Plain: joins and meets of a lattice. -/
import Derived.Test.YtogmiofmhmbhbaaPc
namespace Go.Proofs.Ytogmiofmhmbhbaa

/-- z is a level of xs, and b is in its set; what is no level asks nothing -/
def Hit (xs : List Nat) (b : Nat) (z : Int) : Prop := 0 ≤ z → z < xs.length → B xs z.toNat b
theorem common_bit (xs : List Nat) (b : Nat) (zs : List Int) : (common xs zs).testBit b = true ↔ b < xs.length ∧ ∀ z ∈ zs, Hit xs b z := by
  have key : ∀ (zs : List Int) (acc : Nat), (zs.foldl (commonStep xs) acc).testBit b = true ↔ acc.testBit b = true ∧ ∀ z ∈ zs, Hit xs b z := by
    intro zs
    induction zs with
    | nil => intro acc; simp
    | cons z zs ih =>
      intro acc
      rw [List.foldl_cons, ih]
      have h1 : (commonStep xs acc z).testBit b = true ↔ acc.testBit b = true ∧ Hit xs b z := by
        unfold commonStep Hit B
        by_cases h : 0 ≤ z ∧ z < (xs.length : Int)
        · rw [if_pos h]; simp [h]
        · rw [if_neg h]
          constructor
          · exact fun x => ⟨x, fun h1 h2 => absurd ⟨h1, h2⟩ h⟩
          · exact fun x => x.1
      rw [h1]
      simp only [List.mem_cons, forall_eq_or_imp]
      constructor
      · rintro ⟨⟨x, y⟩, z⟩; exact ⟨x, y, z⟩
      · rintro ⟨x, y, z⟩; exact ⟨⟨x, y⟩, z⟩
  unfold common
  rw [key]
  have : (full xs.length).testBit b = true ↔ b < xs.length := by unfold full; rw [Nat.testBit_two_pow_sub_one]; simp
  rw [this]

/-- k is the least level above all of zs (in the sense of xs) -/
def JoinOf (n : Nat) (xs : List Nat) (zs : List Int) (k : Nat) : Prop := k < n ∧ ∀ b, b < n → (B xs k b ↔ ∀ z ∈ zs, Hit xs b z)
def Anti (n : Nat) (xs : List Nat) : Prop := ∀ a b, a < n → b < n → B xs a b → B xs b a → a = b

theorem ext_ {n : Nat} {xs : List Nat} (p : Pre n xs) (q : Anti n xs) {a b : Nat} (ha : a < n) (hb : b < n) (h : ∀ c, c < n → (B xs a c ↔ B xs b c)) : a = b :=
  q a b ha hb ((h b hb).2 (p.refl b hb)) ((h a ha).1 (p.refl a ha))

theorem idx_nonneg {xs : List Nat} {c : Nat} : 0 ≤ idx xs c ↔ ∃ k, k < xs.length ∧ gd xs k = c := by
  unfold idx
  constructor
  · intro h
    split at h
    · next k e =>
      rw [List.findIdx?_eq_some_iff_getElem] at e
      obtain ⟨hk, h1, _⟩ := e
      exact ⟨k, hk, by rw [gd_lt hk]; simpa using h1⟩
    · omega
  · rintro ⟨k, hk, h1⟩
    split
    · omega
    · next e =>
      rw [List.findIdx?_eq_none_iff] at e
      have := e _ (gd_mem hk)
      rw [h1] at this
      simp at this
theorem idx_get {xs : List Nat} {c : Nat} (h : 0 ≤ idx xs c) : (idx xs c).toNat < xs.length ∧ gd xs (idx xs c).toNat = c := by
  unfold idx at h ⊢
  split at h
  · next k e =>
    rw [List.findIdx?_eq_some_iff_getElem] at e
    obtain ⟨hk, h1, _⟩ := e
    simp only [Int.toNat_natCast]
    exact ⟨hk, by rw [gd_lt hk]; simpa using h1⟩
  · omega
theorem joinOf_of_gd {n : Nat} {xs : List Nat} (p : Pre n xs) {zs : List Int} {k : Nat} (hk : k < n) (h : gd xs k = common xs zs) : JoinOf n xs zs k := by
  refine ⟨hk, fun b hb => ?_⟩
  have := common_bit xs b zs
  rw [← h, p.len] at this
  unfold B
  rw [this]
  exact ⟨fun x => x.2, fun x => ⟨hb, x⟩⟩
theorem gd_of_joinOf {n : Nat} {xs : List Nat} (p : Pre n xs) {zs : List Int} {k : Nat} (h : JoinOf n xs zs k) : gd xs k = common xs zs := by
  apply Nat.eq_of_testBit_eq
  intro b
  rw [Bool.eq_iff_iff, common_bit, p.len]
  constructor
  · intro hb
    have hbn := p.top k b hb
    exact ⟨hbn, (h.2 b hbn).1 hb⟩
  · rintro ⟨hb, hz⟩
    exact (h.2 b hb).2 hz
theorem lev_join {n : Nat} {xs : List Nat} (p : Pre n xs) (q : Anti n xs) {zs : List Int} {k : Nat} (h : JoinOf n xs zs k) : lev xs zs = k := by
  have e := gd_of_joinOf p h
  have h0 : 0 ≤ idx xs (common xs zs) := idx_nonneg.2 ⟨k, by rw [p.len]; exact h.1, e⟩
  obtain ⟨h1, h2⟩ := idx_get h0
  rw [p.len] at h1
  have : (idx xs (common xs zs)).toNat = k := ext_ p q h1 h.1 (fun c _ => by unfold B; rw [h2, e])
  unfold lev
  omega

/-- a lattice: U: which levels each is at most; D: which are at most it -/
structure Latt (n : Nat) (U D : List Nat) : Prop where
  pu : Pre n U
  pd : Pre n D
  flip : ∀ a b, B D a b ↔ B U b a
  au : Anti n U
  ad : Anti n D
  ju : ∀ a b, a < n → b < n → ∃ k, JoinOf n U [(a : Int), (b : Int)] k
  jd : ∀ a b, a < n → b < n → ∃ k, JoinOf n D [(a : Int), (b : Int)] k

theorem latt_of {n : Nat} {U : List Nat} (p : Pre n U) (h : latB U (turnedL U) = true) : Latt n U (turnedL U) := by
  have fl : ∀ a b, B (turnedL U) a b ↔ B U b a := by
    intro a b
    constructor
    · intro x
      have ha := B_lt x
      rw [turnedL_len, p.len] at ha
      exact (B_turned p.len a b ha).1 x
    · intro x
      exact (B_turned p.len a b (p.top _ _ x)).2 x
  have pd : Pre n (turnedL U) := ⟨by rw [turnedL_len, p.len], fun a b x => by have := B_lt ((fl a b).1 x); rwa [p.len] at this, fun a ha => (fl a a).2 (p.refl a ha),
    fun a b c x y => (fl a c).2 (p.trans c b a ((fl b c).1 y) ((fl a b).1 x))⟩
  have ok := (latB_iff U (turnedL U)).1 h
  rw [p.len] at ok
  have parts : ∀ a b, a < n → b < n → (0 ≤ idx U (common U [(a : Int), (b : Int)])) ∧ (0 ≤ idx (turnedL U) (common (turnedL U) [(a : Int), (b : Int)])) ∧ (a ≠ b → B U a b → B U b a → False) := by
    intro a b ha hb
    have := ok a ha b hb
    unfold okAB at this
    simp only [Bool.and_eq_true, decide_eq_true_eq, Bool.not_eq_true', Bool.and_eq_false_iff, decide_eq_false_iff_not] at this
    refine ⟨this.1.1, this.1.2, fun h1 h2 h3 => ?_⟩
    rcases this.2 with (h4 | h4) | h4
    · exact h4 h1
    · unfold B at h2; rw [h2] at h4; cases h4
    · unfold B at h3; rw [h3] at h4; cases h4
  have au : Anti n U := fun a b ha hb h1 h2 => by
    by_cases e : a = b
    · exact e
    · exact absurd ((parts a b ha hb).2.2 e h1 h2) (by simp)
  refine ⟨p, pd, fl, au, fun a b ha hb h1 h2 => au a b ha hb ((fl b a).1 h2) ((fl a b).1 h1), fun a b ha hb => ?_, fun a b ha hb => ?_⟩
  · obtain ⟨h1, h2⟩ := idx_get (parts a b ha hb).1
    exact ⟨_, joinOf_of_gd p (by rw [← p.len]; exact h1) h2⟩
  · obtain ⟨h1, h2⟩ := idx_get (parts a b ha hb).2.1
    exact ⟨_, joinOf_of_gd pd (by rw [← pd.len]; exact h1) h2⟩

theorem Latt.turn {n : Nat} {U D : List Nat} (l : Latt n U D) : Latt n D U := ⟨l.pd, l.pu, fun a b => (l.flip b a).symm, l.ad, l.au, l.jd, l.ju⟩

theorem two_iff {n : Nat} {xs : List Nat} (p : Pre n xs) {a b c : Nat} (ha : a < n) (hb : b < n) : (∀ z ∈ [(a : Int), (b : Int)], Hit xs c z) ↔ B xs a c ∧ B xs b c := by
  simp only [List.mem_cons, List.not_mem_nil, or_false, forall_eq_or_imp, forall_eq, Hit, p.len, Int.toNat_natCast]
  constructor
  · exact fun h => ⟨h.1 (by omega) (by omega), h.2 (by omega) (by omega)⟩
  · exact fun h => ⟨fun _ _ => h.1, fun _ _ => h.2⟩

/-- there is a level that is at most all -/
theorem Latt.bottom {n : Nat} {U D : List Nat} (l : Latt n U D) (h0 : 0 < n) : ∃ k, JoinOf n U [] k := by
  have key : ∀ m, m ≤ n → 0 < m → ∃ k, k < n ∧ ∀ b, b < m → B U k b := by
    intro m
    induction m with
    | zero => intro _ h; omega
    | succ m ih =>
      intro hm _
      by_cases e : m = 0
      · subst e
        exact ⟨0, h0, fun b hb => by obtain rfl : b = 0 := by omega
                                     exact l.pu.refl 0 h0⟩
      · obtain ⟨k, hk, hb⟩ := ih (by omega) (by omega)
        obtain ⟨j, hj, hjb⟩ := l.jd k m hk (by omega)
        have hjj := (two_iff l.pd hk (by omega : m < n)).1 ((hjb j hj).1 (l.pd.refl j hj))
        have h1 := (l.flip k j).1 hjj.1
        have h2 := (l.flip m j).1 hjj.2
        refine ⟨j, hj, fun b hbm => ?_⟩
        by_cases e2 : b = m
        · subst e2; exact h2
        · exact l.pu.trans j k b h1 (hb b (by omega))
  obtain ⟨k, hk, hb⟩ := key n (Nat.le_refl _) h0
  exact ⟨k, hk, fun b hbn => ⟨fun _ z hz => absurd hz (by simp), fun _ => hb b hbn⟩⟩

theorem Latt.joins {n : Nat} {U D : List Nat} (l : Latt n U D) (h0 : 0 < n) (zs : List Int) : ∃ k, JoinOf n U zs k := by
  induction zs with
  | nil => exact l.bottom h0
  | cons z zs ih =>
    obtain ⟨k, hk, hkb⟩ := ih
    by_cases hz : 0 ≤ z ∧ z < n
    · obtain ⟨x, rfl⟩ := Int.eq_ofNat_of_zero_le hz.1
      have hx : x < n := by omega
      obtain ⟨j, hj, hjb⟩ := l.ju x k hx hk
      refine ⟨j, hj, fun b hb => ?_⟩
      rw [hjb b hb, two_iff l.pu hx hk, hkb b hb]
      simp only [List.mem_cons, forall_eq_or_imp]
      have : Hit U b (x : Int) ↔ B U x b := by
        unfold Hit; rw [l.pu.len, Int.toNat_natCast]
        exact ⟨fun h => h (by omega) (by omega), fun h _ _ => h⟩
      rw [this]
    · refine ⟨k, hk, fun b hb => ?_⟩
      rw [hkb b hb]
      simp only [List.mem_cons, forall_eq_or_imp]
      have : Hit U b z := fun h1 h2 => absurd ⟨h1, by rw [l.pu.len] at h2; exact h2⟩ hz
      simp [this]

/-- the join of two levels, as a number -/
def J (xs : List Nat) (a b : Nat) : Nat := (lev xs [(a : Int), (b : Int)]).toNat
theorem Latt.J_spec {n : Nat} {U D : List Nat} (l : Latt n U D) {a b : Nat} (ha : a < n) (hb : b < n) :
    lev U [(a : Int), (b : Int)] = (J U a b : Nat) ∧ J U a b < n ∧ ∀ c, c < n → (B U (J U a b) c ↔ B U a c ∧ B U b c) := by
  obtain ⟨k, hk, hkb⟩ := l.ju a b ha hb
  have e := lev_join l.pu l.au ⟨hk, hkb⟩
  have e2 : J U a b = k := by unfold J; rw [e]; simp
  rw [e2]
  exact ⟨e, hk, fun c hc => by rw [hkb c hc, two_iff l.pu ha hb]⟩
section
variable {n : Nat} {U D : List Nat} (l : Latt n U D) {a b c : Nat} (ha : a < n) (hb : b < n) (hc : c < n)
include l ha hb
theorem Latt.J_lt : J U a b < n := (l.J_spec ha hb).2.1
theorem Latt.J_comm : J U a b = J U b a :=
  ext_ l.pu l.au (l.J_spec ha hb).2.1 (l.J_spec hb ha).2.1 fun c hc => by rw [(l.J_spec ha hb).2.2 c hc, (l.J_spec hb ha).2.2 c hc]; exact and_comm
theorem Latt.B_join : B U a b ↔ J U a b = b := by
  constructor
  · intro h
    refine ext_ l.pu l.au (l.J_spec ha hb).2.1 hb fun c hc => ?_
    rw [(l.J_spec ha hb).2.2 c hc]
    exact ⟨fun x => x.2, fun x => ⟨l.pu.trans a b c h x, x⟩⟩
  · intro h
    have := ((l.J_spec ha hb).2.2 b hb).1 (by rw [h]; exact l.pu.refl b hb)
    exact this.1
theorem Latt.B_meet : B U a b ↔ J D a b = a := by
  have h1 := l.turn.B_join hb ha
  rw [← l.flip b a, h1, l.turn.J_comm hb ha]
/-- the meet is below, the join above -/
theorem Latt.up_left : B U a (J U a b) := (((l.J_spec ha hb).2.2 _ (l.J_spec ha hb).2.1).1 (l.pu.refl _ (l.J_spec ha hb).2.1)).1
theorem Latt.down_left : B U (J D a b) a := (l.flip a _).1 (l.turn.up_left ha hb)
theorem Latt.absorb : J U a (J D a b) = a := by
  have hm := l.turn.J_lt ha hb
  rw [l.J_comm ha hm]
  exact (l.B_join hm ha).1 (l.down_left ha hb)
include hc
theorem Latt.J_assoc : J U a (J U b c) = J U (J U a b) c := by
  have h1 := l.J_lt hb hc
  have h2 := l.J_lt ha hb
  refine ext_ l.pu l.au (l.J_lt ha h1) (l.J_lt h2 hc) fun x hx => ?_
  rw [(l.J_spec ha h1).2.2 x hx, (l.J_spec hb hc).2.2 x hx, (l.J_spec h2 hc).2.2 x hx, (l.J_spec ha hb).2.2 x hx]
  exact and_assoc.symm
end

/-- the bottom, as a number -/
def Bt (xs : List Nat) : Nat := (lev xs []).toNat
theorem Latt.Bt_spec {n : Nat} {U D : List Nat} (l : Latt n U D) (h0 : 0 < n) : lev U [] = (Bt U : Nat) ∧ Bt U < n ∧ ∀ b, b < n → B U (Bt U) b := by
  obtain ⟨k, hk, hkb⟩ := l.bottom h0
  have e := lev_join l.pu l.au ⟨hk, hkb⟩
  have e2 : Bt U = k := by unfold Bt; rw [e]; simp
  rw [e2]
  exact ⟨e, hk, fun b hb => (hkb b hb).2 (fun z hz => absurd hz (by simp))⟩

end Go.Proofs.Ytogmiofmhmbhbaa
