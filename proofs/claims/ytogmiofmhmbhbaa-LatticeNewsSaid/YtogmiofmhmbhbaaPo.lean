/- Plain: the document's chain picks the same levels. -/
import Derived.Test.YtogmiofmhmbhbaaNf
import Derived.Test.YtogmiofmhmbhbaaPl
import Derived.Test.YtogmiofmhmbhbaaPj
namespace Go.Proofs.Ytogmiofmhmbhbaa
open Go.RowKit

/-- which levels are done, as a row -/
def dT (dn : Nat) : Tab := fun _ d => dn.testBit d
theorem dT_zero (i j : Nat) : dT 0 i j = false := by unfold dT; simp
theorem dT_set (dn c n : Nat) : (rowA (dT dn) n 0).setIfInBounds c (.bool true) = rowA (dT (dn ||| pw c)) n 0 := by
  rw [rowA_upd]
  unfold rowA
  congr 2
  funext j
  congr 1
  rw [Bool.eq_iff_iff, upd_iff]
  unfold dT
  rw [Nat.testBit_or, Bool.or_eq_true, pw_bit]
  constructor
  · rintro (⟨_, h⟩ | h)
    · exact .inr h.symm
    · exact .inl h
  · rintro (h | h)
    · exact .inr h
    · exact .inl ⟨rfl, h.symm⟩
/-- c is not done, and of the levels below d all that go to c are -/
def okTo (f : Tab) (dn c d : Nat) : Bool := !dn.testBit c && (List.range d).all fun x => x == c || dn.testBit x || !f x c
theorem okTo_zero (f : Tab) (dn c : Nat) : okTo f dn c 0 = !dn.testBit c := by unfold okTo; simp
theorem okTo_succ (f : Tab) (dn c d : Nat) : okTo f dn c (d + 1) = (okTo f dn c d && (d == c || dn.testBit d || !f d c)) := by
  unfold okTo; rw [List.range_succ, List.all_append, ← Bool.and_assoc]; simp
theorem okTo_next {n : Nat} {U D : List Nat} {f : Tab} (l : Latt n U D) (h8 : n ≤ 8) (s : Says n U f) {dn c : Nat} (hd : dn < 256) (hc : c < n) : okTo f dn c n = nextB D dn c := by
  rw [Bool.eq_iff_iff, nextB_iff l.pd h8 hd hc]
  unfold okTo
  simp only [Bool.and_eq_true, List.all_eq_true, List.mem_range, Bool.or_eq_true, Bool.not_eq_true', beq_iff_eq]
  constructor
  · rintro ⟨h1, h2⟩
    refine ⟨h1, fun x hx hne => ?_⟩
    have hxn := l.pd.top _ _ hx
    rcases h2 x hxn with (h | h) | h
    · exact absurd h hne
    · exact h
    · rw [s x c hxn hc] at h
      have h3 := (l.flip _ _).1 hx
      unfold B at h3
      rw [h] at h3
      cases h3
  · rintro ⟨h1, h2⟩
    refine ⟨h1, fun x hx => ?_⟩
    by_cases e : x = c
    · exact .inl (.inl e)
    · by_cases h3 : f x c = true
      · rw [s x c hx hc] at h3
        exact .inl (.inr (h2 x ((l.flip _ _).2 h3) e))
      · exact .inr (by simpa using h3)
theorem pick_some {n : Nat} {D : List Nat} (p : Pre n D) (q : Anti n D) (h8 : n ≤ 8) {i : Nat} (hi : i < n) : ∃ j, j < n ∧ nextB D (chTo D i).2 j = true := by
  cases hp : pick D (chTo D i).2 with
  | some j => exact ⟨j, by have := pick_lt hp; rwa [p.len] at this, by unfold pick at hp; exact List.find?_some hp⟩
  | none =>
    have h1 := (chInv p q h8 i (by omega)).len
    have h2 := (chInv p q h8 (i + 1) hi).len
    rw [chTo_miss hp, h1] at h2
    omega

end Go.Proofs.Ytogmiofmhmbhbaa
