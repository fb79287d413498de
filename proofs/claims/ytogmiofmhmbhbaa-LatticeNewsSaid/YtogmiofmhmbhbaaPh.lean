/- Plain: with all edges turned round the lattice is turned round. -/
import Derived.Test.YtogmiofmhmbhbaaPg
import Derived.Test.YtogmiofmhmbhbaaPe
namespace Go.Proofs.Ytogmiofmhmbhbaa

def revE (es : List (Int × Int)) : List (Int × Int) := es.map fun e => (e.2, e.1)
theorem revE_take (es : List (Int × Int)) (k : Nat) (h : k < es.length) : revE (es.take (k + 1)) = revE (es.take k) ++ [((ge es k).2, (ge es k).1)] := by
  unfold revE; rw [take_ge es k h, List.map_append]; rfl
theorem revE_len (es : List (Int × Int)) : (revE es).length = es.length := by simp [revE]
theorem revE_mem (es : List (Int × Int)) (x y : Int) : (x, y) ∈ revE es ↔ (y, x) ∈ es := by
  unfold revE
  simp only [List.mem_map, Prod.mk.injEq]
  constructor
  · rintro ⟨e, he, h1, h2⟩
    obtain ⟨e1, e2⟩ := e
    simp only at h1 h2
    subst h1; subst h2
    exact he
  · intro h
    exact ⟨(y, x), h, rfl, rfl⟩
theorem badEs_rev (n : Int) (es : List (Int × Int)) : badEs n (revE es) = badEs n es := by
  have : badEs n (revE es) = false ↔ badEs n es = false := by
    rw [badEs_iff, badEs_iff]
    constructor
    · rintro h ⟨x, y⟩ he
      have := h (y, x) ((revE_mem es y x).2 he)
      simp only at this ⊢
      omega
    · rintro h ⟨x, y⟩ he
      have := h (y, x) ((revE_mem es x y).1 he)
      simp only at this ⊢
      omega
  cases h1 : badEs n (revE es) <;> cases h2 : badEs n es <;> simp_all
theorem right_rev (n : Nat) (es : List (Int × Int)) (he : RightEs n es) : RightEs n (revE es) := by
  have h1 := (badEs_iff (n : Int) es).2 he
  rw [← badEs_rev] at h1
  exact (badEs_iff (n : Int) _).1 h1
theorem leads_rev (n : Nat) (es : List (Int × Int)) (a b : Nat) : Leads n (revE es) a b ↔ Leads n es b a := by
  constructor
  · intro h S s1 s2 s3
    exact h (fun x y => S y x) s1 (fun x y z h1 h2 => s2 z y x h2 h1) (fun x y hxy => s3 y x ((revE_mem es _ _).1 hxy))
  · intro h S s1 s2 s3
    exact h (fun x y => S y x) s1 (fun x y z h1 h2 => s2 z y x h2 h1) (fun x y hxy => s3 y x ((revE_mem es _ _).2 hxy))
theorem reach_rev (n : Nat) (es : List (Int × Int)) (he : RightEs n es) : reachL n (revE es) = turnedL (reachL n es) := by
  refine bits_eq (by rw [reachL_len, turnedL_len, reachL_len]) fun a b ha => ?_
  rw [reachL_len] at ha
  rw [reach_iff n _ (right_rev n es he), leads_rev, B_turned (reachL_len n es) a b ha, reach_iff n es he]
theorem turned_turned {n : Nat} {U : List Nat} (p : Pre n U) : turnedL (turnedL U) = U := by
  refine bits_eq (by rw [turnedL_len, turnedL_len]) fun a b ha => ?_
  rw [turnedL_len, turnedL_len, p.len] at ha
  rw [B_turned (show (turnedL U).length = n by rw [turnedL_len, p.len]) a b ha]
  constructor
  · intro h
    have hb := B_lt h
    rw [turnedL_len, p.len] at hb
    exact (B_turned p.len b a hb).1 h
  · intro h
    exact (B_turned p.len b a (p.top a b h)).2 h
theorem bool_eq {a b : Bool} (h : a = true ↔ b = true) : a = b := Bool.eq_iff_iff.2 h
theorem latB_turn {n : Nat} {U : List Nat} (p : Pre n U) : latB (turnedL U) U = latB U (turnedL U) := by
  have hl : (turnedL U).length = n := by rw [turnedL_len, p.len]
  apply bool_eq
  rw [latB_iff, latB_iff, hl, p.len]
  have key : ∀ a b, a < n → b < n → okAB (turnedL U) U a b = okAB U (turnedL U) a b := by
    intro a b ha hb
    unfold okAB
    have e1 : (gd (turnedL U) a).testBit b = (gd U b).testBit a := bool_eq (B_turned p.len a b ha)
    have e2 : (gd (turnedL U) b).testBit a = (gd U a).testBit b := bool_eq (B_turned p.len b a hb)
    rw [e1, e2]
    cases decide (0 ≤ idx U (common U [(a : Int), (b : Int)])) <;> cases decide (0 ≤ idx (turnedL U) (common (turnedL U) [(a : Int), (b : Int)])) <;>
      cases decide (a ≠ b) <;> cases (gd U b).testBit a <;> cases (gd U a).testBit b <;> rfl
  constructor
  · intro h a ha b hb; rw [← key a b ha hb]; exact h a ha b hb
  · intro h a ha b hb; rw [key a b ha hb]; exact h a ha b hb
theorem mst_turn {n : Nat} {U D : List Nat} (l : Latt n U D) (a b : Int) : mst U a b = mst D b a := by
  by_cases h : 0 ≤ a ∧ 0 ≤ b ∧ a < n ∧ b < n
  · obtain ⟨x, rfl⟩ := Int.eq_ofNat_of_zero_le h.1
    obtain ⟨y, rfl⟩ := Int.eq_ofNat_of_zero_le h.2.1
    rw [mst_in U x y (by rw [l.pu.len]; omega) (by rw [l.pu.len]; omega), mst_in D y x (by rw [l.pd.len]; omega) (by rw [l.pd.len]; omega)]
    exact bool_eq (l.flip y x).symm
  · rw [mst_out U a b (by rw [l.pu.len]; exact h), mst_out D b a (by rw [l.pd.len]; omega)]

end Go.Proofs.Ytogmiofmhmbhbaa
