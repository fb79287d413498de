/- Plain: marking over the edges as often as there are levels marks just what edges lead to. -/
import Derived.Test.YtogmiofmhmbhbaaPg
namespace Go.Proofs.Ytogmiofmhmbhbaa

def gb (ss : List Bool) (k : Nat) : Bool := ss.getD k false
theorem gb_lt {ss : List Bool} {k : Nat} (h : k < ss.length) : gb ss k = ss[k] := by unfold gb; simp [h]
theorem gb_set (ss : List Bool) (i k : Nat) (v : Bool) (hi : i < ss.length) : gb (ss.set i v) k = if i = k then v else gb ss k := by
  unfold gb
  simp only [List.getD_eq_getElem?_getD, List.getElem?_set]
  by_cases h : i = k
  · subst h; simp [hi]
  · simp [h]
def flS (ss : List Bool) (e : Int × Int) : List Bool := if gb ss e.1.toNat = true then ss.set e.2.toNat true else ss
def flE (es : List (Int × Int)) (ss : List Bool) : List Bool := es.foldl flS ss
def flR (es : List (Int × Int)) (ss : List Bool) : Nat → List Bool
  | 0 => ss
  | r + 1 => flE es (flR es ss r)
def fl0 (a : Nat) : List Bool := (List.replicate 8 false).set a true
theorem flS_len (ss : List Bool) (e : Int × Int) : (flS ss e).length = ss.length := by unfold flS; split <;> simp
theorem flE_len (es : List (Int × Int)) : ∀ ss, (flE es ss).length = ss.length := by
  induction es with
  | nil => intro ss; rfl
  | cons e es ih => intro ss; exact (ih (flS ss e)).trans (flS_len ss e)
theorem flR_len (es : List (Int × Int)) (ss : List Bool) (r : Nat) : (flR es ss r).length = ss.length := by
  induction r with
  | zero => rfl
  | succ r ih => exact (flE_len es _).trans ih
theorem flE_take (es : List (Int × Int)) (ss : List Bool) (k : Nat) (h : k < es.length) : flE (es.take (k + 1)) ss = flS (flE (es.take k) ss) (ge es k) := by
  unfold flE; rw [take_ge es k h, List.foldl_append]; rfl
theorem flS_mono (ss : List Bool) (e : Int × Int) (x : Nat) (h : gb ss x = true) : gb (flS ss e) x = true := by
  unfold flS
  split
  · by_cases hl : e.2.toNat < ss.length
    · rw [gb_set _ _ _ _ hl]; split
      · rfl
      · exact h
    · rw [List.set_eq_of_length_le (by omega)]; exact h
  · exact h
theorem flE_mono (es : List (Int × Int)) : ∀ (ss : List Bool) (x : Nat), gb ss x = true → gb (flE es ss) x = true := by
  induction es with
  | nil => intro ss x h; exact h
  | cons e es ih => intro ss x h; exact ih (flS ss e) x (flS_mono ss e x h)
theorem flE_hit {n : Nat} (hn : n ≤ 8) : ∀ (es : List (Int × Int)) (ss : List Bool), ss.length = 8 → RightEs n es → ∀ e ∈ es, gb ss e.1.toNat = true → gb (flE es ss) e.2.toNat = true := by
  intro es
  induction es with
  | nil => intro ss _ _ e he; simp at he
  | cons f es ih =>
    intro ss hl hr e he h
    have hr' : RightEs n es := fun e' h' => hr e' (List.mem_cons_of_mem _ h')
    rcases List.mem_cons.1 he with rfl | he
    · refine flE_mono es _ _ ?_
      have := hr e (List.mem_cons_self ..)
      unfold flS
      rw [if_pos h, gb_set _ _ _ _ (by omega), if_pos rfl]
    · exact ih (flS ss f) (by rw [flS_len]; exact hl) hr' e he (flS_mono ss f _ h)

/-- all edges stay within what is marked -/
def Closed (es : List (Int × Int)) (ss : List Bool) : Prop := ∀ e ∈ es, gb ss e.1.toNat = true → gb ss e.2.toNat = true
theorem set_same {ss : List Bool} {k : Nat} (h : gb ss k = true) : ss.set k true = ss := by
  apply List.ext_getElem?
  intro i
  rw [List.getElem?_set]
  by_cases e : k = i
  · subst e
    by_cases hk : k < ss.length
    · rw [gb_lt hk] at h; simp [hk, h]
    · unfold gb at h; simp [hk] at h
  · simp [e]
theorem closed_stays : ∀ (es fs : List (Int × Int)) (ss : List Bool), (∀ e ∈ fs, e ∈ es) → Closed es ss → flE fs ss = ss := by
  intro es fs
  induction fs with
  | nil => intro ss _ _; rfl
  | cons f fs ih =>
    intro ss hs hc
    have e : flS ss f = ss := by
      unfold flS
      split
      · next h => exact set_same (hc f (hs f (List.mem_cons_self ..)) h)
      · rfl
    show flE fs (flS ss f) = ss
    rw [e]
    exact ih ss (fun e he => hs e (List.mem_cons_of_mem _ he)) hc
def trues (n : Nat) (ss : List Bool) : Nat := ((List.range n).filter fun x => gb ss x).length
theorem trues_le (n : Nat) (ss : List Bool) : trues n ss ≤ n := by
  have := List.length_filter_le (fun x => gb ss x) (List.range n)
  simpa [trues] using this
theorem flood_grows {n : Nat} (hn : n ≤ 8) (es : List (Int × Int)) (hr : RightEs n es) (ss : List Bool) (hl : ss.length = 8) (h0 : 1 ≤ trues n ss) (r : Nat) : Closed es (flR es ss r) ∨ r + 1 ≤ trues n (flR es ss r) := by
  induction r with
  | zero => exact .inr h0
  | succ r ih =>
    rcases ih with h | h
    · left
      show Closed es (flE es (flR es ss r))
      rw [closed_stays es es _ (fun e he => he) h]
      exact h
    · by_cases hc : Closed es (flR es ss r)
      · left
        show Closed es (flE es (flR es ss r))
        rw [closed_stays es es _ (fun e he => he) hc]
        exact hc
      · right
        have : ∃ e, e ∈ es ∧ gb (flR es ss r) e.1.toNat = true ∧ ¬ gb (flR es ss r) e.2.toNat = true := by
          apply Classical.byContradiction
          intro hno
          exact hc fun e he h1 => Classical.byContradiction fun h2 => hno ⟨e, he, h1, h2⟩
        obtain ⟨e, he, h1, h2⟩ := this
        have hre := hr e he
        have := filter_lt (l := List.range n) (p := fun x => gb (flR es ss r) x) (q := fun x => gb (flR es ss (r + 1)) x) (fun x hx => flE_mono es _ x hx) (a := e.2.toNat)
          (List.mem_range.2 (by omega)) (flE_hit hn es _ (by rw [flR_len]; exact hl) hr e he h1) (by simpa using h2)
        unfold trues at h ⊢
        omega
theorem fl0_bit (a x : Nat) (ha : a < 8) : gb (fl0 a) x = true ↔ x = a := by
  unfold fl0
  rw [gb_set _ _ _ _ (by simp; exact ha)]
  by_cases e : a = x
  · simp [e]
  · rw [if_neg e]
    constructor
    · intro h
      unfold gb at h
      simp only [List.getD_eq_getElem?_getD, List.getElem?_replicate] at h
      split at h <;> simp at h
    · intro h; exact absurd h.symm e
theorem flood_is {n : Nat} (hn : n ≤ 8) (es : List (Int × Int)) (hr : RightEs n es) (a : Nat) (ha : a < n) (b : Nat) : gb (flR es (fl0 a) n) b = true ↔ Leads n es a b := by
  have hl0 : (fl0 a).length = 8 := by simp [fl0]
  have h0 : 1 ≤ trues n (fl0 a) := by
    have : a ∈ (List.range n).filter fun x => gb (fl0 a) x := List.mem_filter.2 ⟨List.mem_range.2 ha, (fl0_bit a a (by omega)).2 rfl⟩
    have := List.length_pos_of_mem this
    unfold trues
    omega
  have hc : Closed es (flR es (fl0 a) n) := by
    rcases flood_grows hn es hr (fl0 a) hl0 h0 n with h | h
    · exact h
    · have := trues_le n (flR es (fl0 a) n)
      omega
  have hmono : ∀ r, gb (flR es (fl0 a) r) a = true := by
    intro r
    induction r with
    | zero => exact (fl0_bit a a (by omega)).2 rfl
    | succ r ih => exact flE_mono es _ a ih
  constructor
  · have key : ∀ r x, gb (flR es (fl0 a) r) x = true → Leads n es a x := by
      intro r
      induction r with
      | zero =>
        intro x hx
        have := (fl0_bit a x (by omega)).1 hx
        subst this
        exact fun S s1 _ _ => s1 x ha
      | succ r ih =>
        have step : ∀ (fs : List (Int × Int)) (ss : List Bool), ss.length = 8 → (∀ e ∈ fs, e ∈ es) → (∀ x, gb ss x = true → Leads n es a x) → ∀ x, gb (flE fs ss) x = true → Leads n es a x := by
          intro fs
          induction fs with
          | nil => intro ss _ _ h x hx; exact h x hx
          | cons f fs ih2 =>
            intro ss hl hs h x hx
            refine ih2 (flS ss f) (by rw [flS_len]; exact hl) (fun e he => hs e (List.mem_cons_of_mem _ he)) (fun y hy => ?_) x hx
            have hf := hs f (List.mem_cons_self ..)
            have hrf := hr f hf
            unfold flS at hy
            split at hy
            · next hf1 =>
              rw [gb_set _ _ _ _ (by omega)] at hy
              split at hy
              · next e =>
                intro S s1 s2 s3
                refine s2 a f.1.toNat y (h _ hf1 S s1 s2 s3) (s3 _ _ ?_)
                have e1 : ((f.1.toNat : Nat) : Int) = f.1 := by omega
                have e2 : ((y : Nat) : Int) = f.2 := by omega
                rw [e1, e2]
                exact hf
              · exact h y hy
            · exact h y hy
        intro x hx
        exact step es _ (by rw [flR_len]; exact hl0) (fun e he => he) ih x hx
    exact key n b
  · intro h
    refine h (fun x y => gb (flR es (fl0 a) n) x = true → gb (flR es (fl0 a) n) y = true) (fun _ _ hx => hx) (fun _ _ _ h1 h2 hx => h2 (h1 hx)) (fun x y hxy hx => ?_) (hmono n)
    have := hc _ hxy (by simpa using hx)
    simpa using this

end Go.Proofs.Ytogmiofmhmbhbaa
