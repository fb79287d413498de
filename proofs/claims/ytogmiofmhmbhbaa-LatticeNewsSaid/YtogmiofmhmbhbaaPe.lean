/- Plain: the edges that LatticeAgain adds follow from those that were there. -/
import Derived.Test.YtogmiofmhmbhbaaPd
namespace Go.Proofs.Ytogmiofmhmbhbaa

def agS (es : List (Int × Int)) (i : Nat) (acc : List (Int × Int)) (k : Nat) : List (Int × Int) := if (ge es i).2 = (ge es k).1 then acc ++ [((ge es i).1, (ge es k).2)] else acc
def agIn (es : List (Int × Int)) (i : Nat) : Nat → List (Int × Int) → List (Int × Int)
  | 0, acc => acc
  | k + 1, acc => agS es i (agIn es i k acc) k
def agOut (es : List (Int × Int)) : Nat → List (Int × Int)
  | 0 => es
  | i + 1 => agIn es i es.length (agOut es i)
def moreL (es : List (Int × Int)) : List (Int × Int) := agOut es es.length ++ es

theorem agS_len (es : List (Int × Int)) (i : Nat) (acc : List (Int × Int)) (k : Nat) : (agS es i acc k).length ≤ acc.length + 1 := by
  unfold agS; split <;> simp
theorem agIn_len (es : List (Int × Int)) (i k : Nat) (acc : List (Int × Int)) : (agIn es i k acc).length ≤ acc.length + k := by
  induction k with
  | zero => simp [agIn]
  | succ k ih => have := agS_len es i (agIn es i k acc) k; show (agS es i (agIn es i k acc) k).length ≤ _; omega
theorem agOut_len (es : List (Int × Int)) (i : Nat) : (agOut es i).length ≤ es.length + i * es.length := by
  induction i with
  | zero => simp [agOut]
  | succ i ih =>
    have := agIn_len es i es.length (agOut es i)
    show (agIn es i es.length (agOut es i)).length ≤ _
    rw [Nat.succ_mul]; omega

/-- x is an edge, or two edges one behind the other -/
def Follows (es : List (Int × Int)) (x : Int × Int) : Prop := x ∈ es ∨ ∃ e f, e ∈ es ∧ f ∈ es ∧ e.2 = f.1 ∧ x = (e.1, f.2)
theorem agIn_mem (es : List (Int × Int)) (i k : Nat) (acc : List (Int × Int)) (hi : i < es.length) (hk : k ≤ es.length) (h : ∀ x ∈ acc, Follows es x) : ∀ x ∈ agIn es i k acc, Follows es x := by
  induction k with
  | zero => exact h
  | succ k ih =>
    show ∀ x ∈ agS es i (agIn es i k acc) k, _
    unfold agS
    split
    · next he =>
      intro x hx
      rcases List.mem_append.1 hx with hx | hx
      · exact ih (by omega) x hx
      · simp at hx
        exact .inr ⟨_, _, ge_mem hi, ge_mem (show k < es.length by omega), he, hx⟩
    · exact ih (by omega)
theorem agOut_mem (es : List (Int × Int)) (i : Nat) (hi : i ≤ es.length) : ∀ x ∈ agOut es i, Follows es x := by
  induction i with
  | zero => exact fun x hx => .inl hx
  | succ i ih => exact agIn_mem es i es.length _ (by omega) (Nat.le_refl _) (ih (by omega))
theorem moreL_mem (es : List (Int × Int)) : ∀ x ∈ moreL es, Follows es x := by
  intro x hx
  rcases List.mem_append.1 hx with hx | hx
  · exact agOut_mem es es.length (Nat.le_refl _) x hx
  · exact .inl hx
theorem moreL_len (es : List (Int × Int)) : (moreL es).length ≤ 2 * es.length + es.length * es.length := by
  have := agOut_len es es.length
  unfold moreL; rw [List.length_append]; omega

theorem wrong_iff (n : Int) (e : Int × Int) : wrongE n e = false ↔ 0 ≤ e.1 ∧ e.1 < n ∧ 0 ≤ e.2 ∧ e.2 < n := by
  unfold wrongE; simp; omega
theorem badEs_iff (n : Int) (es : List (Int × Int)) : badEs n es = false ↔ ∀ e ∈ es, 0 ≤ e.1 ∧ e.1 < n ∧ 0 ≤ e.2 ∧ e.2 < n := by
  constructor
  · exact badEs_no
  · intro h
    exact List.any_eq_false.2 fun e he => by rw [(wrong_iff n e).2 (h e he)]; simp
theorem badEs_more (n : Int) (es : List (Int × Int)) : badEs n (moreL es) = badEs n es := by
  have : badEs n (moreL es) = false ↔ badEs n es = false := by
    rw [badEs_iff, badEs_iff]
    constructor
    · exact fun h e he => h e (List.mem_append.2 (.inr he))
    · intro h x hx
      rcases moreL_mem es x hx with hx | ⟨e, f, he, hf, _, rfl⟩
      · exact h x hx
      · have := h e he
        have := h f hf
        simp only
        omega
  cases h1 : badEs n (moreL es) <;> cases h2 : badEs n es <;> simp_all
theorem leads_more (n : Nat) (es : List (Int × Int)) (he : RightEs n es) (a b : Nat) : Leads n (moreL es) a b ↔ Leads n es a b := by
  constructor
  · intro h S s1 s2 s3
    refine h S s1 s2 (fun x y hxy => ?_)
    rcases moreL_mem es _ hxy with hxy | ⟨e, f, hme, hmf, hef, hx⟩
    · exact s3 x y hxy
    · have r1 := he e hme
      obtain ⟨e1, e2⟩ := e
      obtain ⟨f1, f2⟩ := f
      simp only at hef r1
      simp only [Prod.mk.injEq] at hx
      obtain ⟨rfl, rfl⟩ := hx
      subst hef
      obtain ⟨z, rfl⟩ := Int.eq_ofNat_of_zero_le r1.2.2.1
      exact s2 x z y (s3 x z hme) (s3 z y hmf)
  · intro h S s1 s2 s3
    exact h S s1 s2 (fun x y hxy => s3 x y (List.mem_append.2 (.inr hxy)))
theorem right_more (n : Nat) (es : List (Int × Int)) (he : RightEs n es) : RightEs n (moreL es) := by
  have h1 := (badEs_iff (n : Int) es).2 he
  rw [← badEs_more] at h1
  exact (badEs_iff (n : Int) _).1 h1
theorem reach_more (n : Nat) (es : List (Int × Int)) (he : RightEs n es) : reachL n (moreL es) = reachL n es := by
  refine bits_eq (by rw [reachL_len, reachL_len]) fun a b _ => ?_
  rw [reach_iff n _ (right_more n es he), reach_iff n es he, leads_more n es he]

end Go.Proofs.Ytogmiofmhmbhbaa
