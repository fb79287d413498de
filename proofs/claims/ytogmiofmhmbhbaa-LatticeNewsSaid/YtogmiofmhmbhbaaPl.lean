/- Plain: the document's test for a lattice is the code's. -/
import Derived.Test.YtogmiofmhmbhbaaPk
namespace Go.Proofs.Ytogmiofmhmbhbaa

theorem idx_iff {n : Nat} {xs : List Nat} (p : Pre n xs) (zs : List Int) : 0 ≤ idx xs (common xs zs) ↔ ∃ k, JoinOf n xs zs k := by
  rw [idx_nonneg]
  constructor
  · rintro ⟨k, hk, h⟩
    exact ⟨k, joinOf_of_gd p (by rw [← p.len]; exact hk) h⟩
  · rintro ⟨k, h⟩
    exact ⟨k, by rw [p.len]; exact h.1, gd_of_joinOf p h⟩
theorem turned_pre {n : Nat} {U : List Nat} (p : Pre n U) : Pre n (turnedL U) := by
  have fl : ∀ a b, B (turnedL U) a b ↔ B U b a := by
    intro a b
    constructor
    · intro x
      have ha := B_lt x
      rw [turnedL_len, p.len] at ha
      exact (B_turned p.len a b ha).1 x
    · intro x
      exact (B_turned p.len a b (p.top _ _ x)).2 x
  exact ⟨by rw [turnedL_len, p.len], fun a b x => by have := B_lt ((fl a b).1 x); rwa [p.len] at this, fun a ha => (fl a a).2 (p.refl a ha),
    fun a b c x y => (fl a c).2 (p.trans c b a ((fl b c).1 y) ((fl a b).1 x))⟩
theorem says_turned {n : Nat} {U : List Nat} {f : Tab} (p : Pre n U) (s : Says n U f) : Says n (turnedL U) (fun a b => f b a) := by
  intro a b ha hb
  show f b a = _
  rw [s b a hb ha]
  exact bool_eq (B_turned p.len a b ha).symm
/-- of two levels the document's answers -/
theorem okAB_ref {n : Nat} {U : List Nat} {f : Tab} (p : Pre n U) (s : Says n U f) {a b : Nat} (ha : a < n) (hb : b < n) :
    okAB U (turnedL U) a b = (decide (0 ≤ leastF n f [(a : Int), (b : Int)]) && decide (0 ≤ leastF n (fun a b => f b a) [(a : Int), (b : Int)]) && !(decide (a ≠ b) && f a b && f b a)) := by
  have hz : ∀ z ∈ [(a : Int), (b : Int)], 0 ≤ z ∧ z < n := by
    intro z hz
    simp at hz
    omega
  have e1 : decide (0 ≤ idx U (common U [(a : Int), (b : Int)])) = decide (0 ≤ leastF n f [(a : Int), (b : Int)]) := by
    rw [Bool.eq_iff_iff]; simp only [decide_eq_true_eq]; rw [idx_iff p, leastF_is p s hz]
  have e2 : decide (0 ≤ idx (turnedL U) (common (turnedL U) [(a : Int), (b : Int)])) = decide (0 ≤ leastF n (fun a b => f b a) [(a : Int), (b : Int)]) := by
    rw [Bool.eq_iff_iff]; simp only [decide_eq_true_eq]; rw [idx_iff (turned_pre p), leastF_is (turned_pre p) (says_turned p s) hz]
  unfold okAB
  rw [e1, e2, s a b ha hb, s b a hb ha]

end Go.Proofs.Ytogmiofmhmbhbaa
