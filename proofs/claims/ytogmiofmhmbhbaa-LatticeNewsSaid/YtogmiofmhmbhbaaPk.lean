/- Plain: the document's own answers for the lattice: tables of yes and no. -/
import Derived.Test.YtogmiofmhmbhbaaPh
namespace Go.Proofs.Ytogmiofmhmbhbaa

abbrev Tab := Nat → Nat → Bool
def upd (f : Tab) (i j : Nat) : Tab := fun a b => if a = i ∧ b = j then true else f a b
theorem upd_iff (f : Tab) (i j a b : Nat) : upd f i j a b = true ↔ (a = i ∧ b = j) ∨ f a b = true := by
  unfold upd; by_cases h : a = i ∧ b = j <;> simp [h]
def fDg (t : Nat) : Tab := fun a b => decide (a = b ∧ a < t)
def fEd (f : Tab) (es : List (Int × Int)) : Tab := es.foldl (fun f e => upd f e.1.toNat e.2.toNat) f
def c3 (k i : Nat) : Nat → Tab → Tab
  | 0, f => f
  | j + 1, f => if (c3 k i j f i k && c3 k i j f k j) = true then upd (c3 k i j f) i j else c3 k i j f
def c2 (n k : Nat) : Nat → Tab → Tab
  | 0, f => f
  | i + 1, f => c3 k i n (c2 n k i f)
def c1 (n : Nat) : Nat → Tab → Tab
  | 0, f => f
  | k + 1, f => c2 n k n (c1 n k f)
def fCl (n : Nat) (es : List (Int × Int)) : Tab := c1 n n (fEd (fDg n) es)

theorem fEd_take (f : Tab) (es : List (Int × Int)) (k a b : Nat) (h : k < es.length) (e : ge es k = ((a : Int), (b : Int))) : fEd f (es.take (k + 1)) = upd (fEd f (es.take k)) a b := by
  unfold fEd; rw [take_ge es k h, List.foldl_append, e]; rfl
theorem fEd_iff (n : Nat) : ∀ (es : List (Int × Int)) (f : Tab), RightEs n es → ∀ a b, fEd f es a b = true ↔ f a b = true ∨ ((a : Int), (b : Int)) ∈ es
  | [], f, _, a, b => by simp [fEd]
  | e :: es, f, h, a, b => by
    have h1 := h e (List.mem_cons_self ..)
    have ih := fEd_iff n es (upd f e.1.toNat e.2.toNat) (fun e' h' => h e' (List.mem_cons_of_mem _ h')) a b
    show fEd (upd f e.1.toNat e.2.toNat) es a b = true ↔ _
    rw [ih, upd_iff, List.mem_cons]
    obtain ⟨e1, e2⟩ := e
    simp only [Prod.mk.injEq]
    simp only at h1
    constructor
    · rintro ((⟨h2, h3⟩ | h) | h)
      · exact .inr (.inl ⟨by omega, by omega⟩)
      · exact .inl h
      · exact .inr (.inr h)
    · rintro (h | ⟨h2, h3⟩ | h)
      · exact .inl (.inr h)
      · exact .inl (.inl ⟨by omega, by omega⟩)
      · exact .inr h
theorem c3_iff (k i m : Nat) (f : Tab) (a b : Nat) : c3 k i m f a b = true ↔ f a b = true ∨ (a = i ∧ b < m ∧ f i k = true ∧ f k b = true) := by
  induction m generalizing a b with
  | zero => simp [c3]
  | succ j ih =>
    have g1 : c3 k i j f i k = true ↔ f i k = true := by
      rw [ih]
      constructor
      · rintro (h | h)
        · exact h
        · exact h.2.2.1
      · exact .inl
    have g2 : c3 k i j f k j = true ↔ f k j = true := by
      rw [ih]
      constructor
      · rintro (h | h)
        · exact h
        · exact h.2.2.2
      · exact .inl
    unfold c3
    by_cases hc : (c3 k i j f i k && c3 k i j f k j) = true
    · rw [if_pos hc, upd_iff, ih]
      rw [Bool.and_eq_true, g1, g2] at hc
      constructor
      · rintro (⟨rfl, rfl⟩ | h | h)
        · exact .inr ⟨rfl, by omega, hc.1, hc.2⟩
        · exact .inl h
        · exact .inr ⟨h.1, by omega, h.2.2⟩
      · rintro (h | ⟨h1, h2, h3⟩)
        · exact .inr (.inl h)
        · by_cases e : b = j
          · exact .inl ⟨h1, e⟩
          · exact .inr (.inr ⟨h1, by omega, h3⟩)
    · rw [if_neg hc, ih]
      rw [Bool.and_eq_true, g1, g2] at hc
      constructor
      · rintro (h | h)
        · exact .inl h
        · exact .inr ⟨h.1, by omega, h.2.2⟩
      · rintro (h | ⟨h1, h2, h3⟩)
        · exact .inl h
        · by_cases e : b = j
          · subst e; exact absurd h3 hc
          · exact .inr ⟨h1, by omega, h3⟩
theorem c2_iff (n k m : Nat) (f : Tab) (a b : Nat) : c2 n k m f a b = true ↔ f a b = true ∨ (a < m ∧ b < n ∧ f a k = true ∧ f k b = true) := by
  induction m generalizing a b with
  | zero => simp [c2]
  | succ i ih =>
    show c3 k i n (c2 n k i f) a b = true ↔ _
    rw [c3_iff, ih a b, ih i k, ih k b]
    constructor
    · rintro ((h | h) | ⟨rfl, h1, h2, h3⟩)
      · exact .inl h
      · exact .inr ⟨by omega, h.2⟩
      · refine .inr ⟨by omega, h1, ?_, ?_⟩
        · rcases h2 with h2 | h2
          · exact h2
          · exact h2.2.2.1
        · rcases h3 with h3 | h3
          · exact h3
          · exact h3.2.2.2
    · rintro (h | ⟨h1, h2, h3, h4⟩)
      · exact .inl (.inl h)
      · by_cases e : a = i
        · subst e; exact .inr ⟨rfl, h2, .inl h3, .inl h4⟩
        · exact .inl (.inr ⟨by omega, h2, h3, h4⟩)
theorem c1_more (n k : Nat) (f : Tab) (a b : Nat) (h : f a b = true) : c1 n k f a b = true := by
  induction k with
  | zero => exact h
  | succ k ih => show c2 n k n (c1 n k f) a b = true; rw [c2_iff]; exact .inl ih
theorem c1_least (n k : Nat) (f : Tab) (S : Nat → Nat → Prop) (ht : ∀ a b c, S a b → S b c → S a c) (h0 : ∀ a b, f a b = true → S a b) : ∀ a b, c1 n k f a b = true → S a b := by
  induction k with
  | zero => exact h0
  | succ k ih =>
    intro a b h
    have h : c2 n k n (c1 n k f) a b = true := h
    rw [c2_iff] at h
    rcases h with h | ⟨_, _, h1, h2⟩
    · exact ih a b h
    · exact ht a k b (ih a k h1) (ih k b h2)
theorem c1_trans (n k : Nat) (f : Tab) (hk : ∀ j, j ≤ k → ∀ a b, c1 n j f a b = true → a < n ∧ b < n) : ∀ a x b, x < k → c1 n k f a x = true → c1 n k f x b = true → c1 n k f a b = true := by
  induction k with
  | zero => intro a x b hx; omega
  | succ k ih =>
    intro a x b hx h1 h2
    have ih := ih (fun j hj => hk j (by omega))
    have tp := hk k (by omega)
    have e : ∀ a b, c1 n (k + 1) f a b = true ↔ c1 n k f a b = true ∨ (a < n ∧ b < n ∧ c1 n k f a k = true ∧ c1 n k f k b = true) := fun a b => c2_iff n k n _ a b
    rw [e] at h1 h2 ⊢
    by_cases ex : x = k
    · subst ex
      have g1 : c1 n x f a x = true := by
        rcases h1 with h1 | h1
        · exact h1
        · exact h1.2.2.1
      have g2 : c1 n x f x b = true := by
        rcases h2 with h2 | h2
        · exact h2
        · exact h2.2.2.2
      exact .inr ⟨(tp _ _ g1).1, (tp _ _ g2).2, g1, g2⟩
    · have hx' : x < k := by omega
      rcases h1 with h1 | ⟨ha, _, h1, h1'⟩
      · rcases h2 with h2 | ⟨_, hb, h2, h2'⟩
        · exact .inl (ih a x b hx' h1 h2)
        · exact .inr ⟨(tp _ _ h1).1, hb, ih a x k hx' h1 h2, h2'⟩
      · rcases h2 with h2 | ⟨_, hb, h2, h2'⟩
        · exact .inr ⟨ha, (tp _ _ h2).2, h1, ih k x b hx' h1' h2⟩
        · exact .inr ⟨ha, hb, h1, h2'⟩
theorem fCl_iff (n : Nat) (es : List (Int × Int)) (he : RightEs n es) (a b : Nat) : fCl n es a b = true ↔ Leads n es a b := by
  have start : ∀ a b, fEd (fDg n) es a b = true ↔ (a = b ∧ a < n) ∨ ((a : Int), (b : Int)) ∈ es := fun a b => by
    rw [fEd_iff n es _ he]; unfold fDg; simp
  have top : ∀ k a b, c1 n k (fEd (fDg n) es) a b = true → a < n ∧ b < n := fun k =>
    c1_least n k _ (fun a b => a < n ∧ b < n) (fun _ _ _ h1 h2 => ⟨h1.1, h2.2⟩) (fun a b h => by
      rcases (start a b).1 h with ⟨rfl, ha⟩ | h
      · exact ⟨ha, ha⟩
      · have := he _ h
        simp only at this
        omega)
  constructor
  · intro h S s1 s2 s3
    refine c1_least n n _ S s2 (fun x y hxy => ?_) a b h
    rcases (start x y).1 hxy with ⟨rfl, hx⟩ | hxy
    · exact s1 x hx
    · exact s3 x y hxy
  · intro h
    exact h (fun x y => fCl n es x y = true) (fun x hx => c1_more n n _ x x ((start x x).2 (.inl ⟨rfl, hx⟩)))
      (fun x y z h1 h2 => c1_trans n n _ (fun j _ => top j) x y z (top n _ _ h1).2 h1 h2) (fun x y hxy => c1_more n n _ x y ((start x y).2 (.inr hxy)))
/-- the table says what the sets say -/
def Says (n : Nat) (U : List Nat) (f : Tab) : Prop := ∀ a b, a < n → b < n → f a b = (gd U a).testBit b
theorem fCl_says (n : Nat) (es : List (Int × Int)) (he : RightEs n es) : Says n (reachL n es) (fCl n es) := fun a b _ _ => by
  apply bool_eq
  rw [fCl_iff n es he]
  exact (reach_iff n es he a b).symm

/-! the least one -/
def upB (f : Tab) (zs : List Int) (c : Nat) : Bool := zs.all fun z => f z.toNat c
def okC (n : Nat) (f : Tab) (zs : List Int) (c : Nat) : Bool := upB f zs c && (List.range n).all fun d => !upB f zs d || f c d
def leastF (n : Nat) (f : Tab) (zs : List Int) : Int := match (List.range n).find? (okC n f zs) with | some c => c | none => -1
theorem leastF_hit {n : Nat} {f : Tab} {zs : List Int} {c : Nat} (hc : c < n) (h : okC n f zs c = true) (ho : ∀ j, j < c → okC n f zs j = false) : leastF n f zs = c := by
  have e : (List.range n).find? (okC n f zs) = some c := by
    rw [List.find?_eq_some_iff_getElem]
    refine ⟨h, c, by simpa using hc, by simp, fun j hj => ?_⟩
    simp [ho j hj]
  unfold leastF; rw [e]
theorem leastF_miss {n : Nat} {f : Tab} {zs : List Int} (ho : ∀ j, j < n → okC n f zs j = false) : leastF n f zs = -1 := by
  have e : (List.range n).find? (okC n f zs) = none := by
    rw [List.find?_eq_none]
    intro x hx
    rw [List.mem_range] at hx
    simp [ho x hx]
  unfold leastF; rw [e]
theorem okC_iff {n : Nat} {U : List Nat} {f : Tab} (p : Pre n U) (s : Says n U f) {zs : List Int} (hz : ∀ z ∈ zs, 0 ≤ z ∧ z < n) {c : Nat} (hc : c < n) : okC n f zs c = true ↔ JoinOf n U zs c := by
  have up : ∀ d, d < n → (upB f zs d = true ↔ ∀ z ∈ zs, Hit U d z) := by
    intro d hd
    unfold upB
    rw [List.all_eq_true]
    constructor
    · intro h z hm _ _
      have := h z hm
      rw [s _ _ (by have := hz z hm; omega) hd] at this
      exact this
    · intro h z hm
      have hr := hz z hm
      rw [s _ _ (by omega) hd]
      exact h z hm hr.1 (by rw [p.len]; exact hr.2)
  unfold okC
  rw [Bool.and_eq_true, List.all_eq_true, up c hc]
  constructor
  · rintro ⟨h1, h2⟩
    refine ⟨hc, fun b hb => ⟨fun hB z hm h3 h4 => ?_, fun h => ?_⟩⟩
    · exact p.trans _ c b (h1 z hm h3 h4) hB
    · have := h2 b (List.mem_range.2 hb)
      simp only [Bool.or_eq_true, Bool.not_eq_true'] at this
      rcases this with h5 | h5
      · rw [(up b hb).2 h] at h5; cases h5
      · rw [s c b hc hb] at h5; exact h5
  · rintro ⟨_, h⟩
    refine ⟨(h c hc).1 (p.refl c hc), fun d hd => ?_⟩
    rw [List.mem_range] at hd
    cases h5 : upB f zs d
    · simp
    · have := (h d hd).2 ((up d hd).1 h5)
      simp only [Bool.not_true, Bool.false_or]
      rw [s c d hc hd]
      exact this
theorem leastF_is {n : Nat} {U : List Nat} {f : Tab} (p : Pre n U) (s : Says n U f) {zs : List Int} (hz : ∀ z ∈ zs, 0 ≤ z ∧ z < n) : (0 ≤ leastF n f zs ↔ ∃ k, JoinOf n U zs k) := by
  unfold leastF
  split
  · next c h =>
    constructor
    · intro _
      have hc : c < n := by simpa using List.mem_of_find?_eq_some h
      exact ⟨c, (okC_iff p s hz hc).1 (List.find?_some h)⟩
    · intro _; omega
  · next h =>
    constructor
    · intro h2; omega
    · rintro ⟨k, hk⟩
      rw [List.find?_eq_none] at h
      exact absurd ((okC_iff p s hz hk.1).2 hk) (h k (List.mem_range.2 hk.1))
theorem leastF_join {n : Nat} {U : List Nat} {f : Tab} (p : Pre n U) (q : Anti n U) (s : Says n U f) {zs : List Int} (hz : ∀ z ∈ zs, 0 ≤ z ∧ z < n) (he : ∃ k, JoinOf n U zs k) : leastF n f zs = lev U zs := by
  have h0 := (leastF_is p s hz).2 he
  unfold leastF at h0 ⊢
  split at h0
  · next c h =>
    have hc : c < n := by simpa using List.mem_of_find?_eq_some h
    rw [lev_join p q ((okC_iff p s hz hc).1 (List.find?_some h))]
  · omega

end Go.Proofs.Ytogmiofmhmbhbaa
