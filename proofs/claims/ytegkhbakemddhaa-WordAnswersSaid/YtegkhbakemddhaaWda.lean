/- Package word and the document's own answers: the walks of all functions but Sign. -/
import Derived.Test.YtegkhbakemddhaaRows
import Derived.WalkKit
import Derived.WalkSpells
import Derived.WalkLawsBesides
import Derived.Lib.Hide
namespace Go.Proofs.Ytegkhbakemddhaa
open Go.RowKit

/-- the word that says whether something is so -/
def tw (b : Bool) : Int := if b then 1 else 0
/-- what an operator does with two words -/
def bw (k a b : Int) : Int :=
  if k = 1 then wrap64 (a + b) else if k = 2 then wrap64 (a - b) else if k = 3 then wrap64 (a * b)
  else if k = 4 then (if b = 0 then 0 else wrap64 (a.tdiv b)) else if k = 5 then (if b = 0 then 0 else a.tmod b)
  else if k = 6 then tw (!(a == 0) && !(b == 0)) else if k = 7 then tw (!(a == 0) || !(b == 0))
  else if k = 8 then tw (decide (a < b)) else if k = 9 then tw (decide (a ≤ b)) else if k = 10 then tw (a == b) else if k = 11 then tw (!(a == b)) else 0
/-- the fault -/
def be (k b : Int) : Int := if (k = 4 ∨ k = 5) ∧ b = 0 then 1 else 0
/-- what an operator does with a word -/
def uw (k a : Int) : Int := if k = 1 then wrap64 (-a) else if k = 2 then tw (a == 0) else 0
/-- whether there is such an operator -/
def ub (k : Int) : Bool := decide (k = 1 ∨ k = 2)

set_option maxHeartbeats 400000 in
theorem truth_any (b : Bool) (w : World) :
    Calls Try.prog 16 #[.bool b] w fun e w' => e = .returned (.int .i64 (tw b)) ∧ w = w' := by
  cases b
  all_goals
    go_enter Try.func16, Try.ntmps16
    go_wp2
    go_ret
    exact ⟨rfl, rfl⟩

set_option maxHeartbeats 400000 in
theorem rtruth_any (b : Bool) (w : World) :
    Calls Try.prog 17 #[.bool b] w fun e w' => e = .returned (.int .i64 (tw b)) ∧ w = w' := by
  cases b
  all_goals
    go_enter Try.func17, Try.ntmps17
    go_wp2
    go_ret
    exact ⟨rfl, rfl⟩

set_option maxHeartbeats 400000 in
theorem divided_any (k a b : Int) (w : World) :
    Calls Try.prog 15 #[.int .i64 k, .int .i64 a, .int .i64 b] w fun e w' =>
      e = .returned (.tuple #[.int .i64 (if b = 0 then 0 else if k = 4 then wrap64 (a.tdiv b) else a.tmod b), .int .i64 (if b = 0 then 1 else 0)]) ∧ w = w' := by
  by_cases hb : b = 0
  · subst hb
    go_enter Try.func15, Try.ntmps15
    go_wp2
    go_ret2
    exact ⟨rfl, rfl⟩
  · rw [if_neg hb, if_neg hb]
    by_cases hk : k = 4
    · subst hk
      go_enter Try.func15, Try.ntmps15
      go_wp2
      go_ret2
      exact ⟨rfl, rfl⟩
    · rw [if_neg hk]
      go_enter Try.func15, Try.ntmps15
      go_wp2
      go_ret2
      exact ⟨rfl, rfl⟩

set_option maxHeartbeats 1000000 in
theorem binary_any (k a b : Int) (w : World) :
    Calls Try.prog 9 #[.int .i64 k, .int .i64 a, .int .i64 b] w fun e w' => e = .returned (.tuple #[.int .i64 (bw k a b), .int .i64 (be k b)]) ∧ w = w' := by
  by_cases h1 : k = 1
  · subst h1
    go_enter Try.func9, Try.ntmps9
    go_wp2_with (first | (go_at_call 16; refine (truth_any _ _).mono ?_; rintro e w' ⟨rfl, rfl⟩) | (go_at_call 15; refine (divided_any _ _ _ _).mono ?_; rintro e w' ⟨rfl, rfl⟩))
    go_ret2
    exact ⟨rfl, rfl⟩
  by_cases h2 : k = 2
  · subst h2
    go_enter Try.func9, Try.ntmps9
    go_wp2_with (first | (go_at_call 16; refine (truth_any _ _).mono ?_; rintro e w' ⟨rfl, rfl⟩) | (go_at_call 15; refine (divided_any _ _ _ _).mono ?_; rintro e w' ⟨rfl, rfl⟩))
    go_ret2
    exact ⟨rfl, rfl⟩
  by_cases h3 : k = 3
  · subst h3
    go_enter Try.func9, Try.ntmps9
    go_wp2_with (first | (go_at_call 16; refine (truth_any _ _).mono ?_; rintro e w' ⟨rfl, rfl⟩) | (go_at_call 15; refine (divided_any _ _ _ _).mono ?_; rintro e w' ⟨rfl, rfl⟩))
    go_ret2
    exact ⟨rfl, rfl⟩
  by_cases h4 : k = 4
  · subst h4
    by_cases hb : b = 0
    · subst hb
      go_enter Try.func9, Try.ntmps9
      go_wp2_with (first | (go_at_call 16; refine (truth_any _ _).mono ?_; rintro e w' ⟨rfl, rfl⟩) | (go_at_call 15; refine (divided_any _ _ _ _).mono ?_; rintro e w' ⟨rfl, rfl⟩))
      go_ret2
      exact ⟨rfl, rfl⟩
    · have hw : bw 4 a b = wrap64 (a.tdiv b) := if_neg hb
      have hv : be 4 b = 0 := by simp [be, hb]
      rw [hw, hv]; clear hw hv
      go_enter Try.func9, Try.ntmps9
      go_wp2_with (first | (go_at_call 16; refine (truth_any _ _).mono ?_; rintro e w' ⟨rfl, rfl⟩) | (go_at_call 15; refine (divided_any _ _ _ _).mono ?_; rintro e w' ⟨rfl, rfl⟩))
      go_ret2
      exact ⟨rfl, rfl⟩
  by_cases h5 : k = 5
  · subst h5
    by_cases hb : b = 0
    · subst hb
      go_enter Try.func9, Try.ntmps9
      go_wp2_with (first | (go_at_call 16; refine (truth_any _ _).mono ?_; rintro e w' ⟨rfl, rfl⟩) | (go_at_call 15; refine (divided_any _ _ _ _).mono ?_; rintro e w' ⟨rfl, rfl⟩))
      go_ret2
      exact ⟨rfl, rfl⟩
    · have hw : bw 5 a b = a.tmod b := if_neg hb
      have hv : be 5 b = 0 := by simp [be, hb]
      rw [hw, hv]; clear hw hv
      go_enter Try.func9, Try.ntmps9
      go_wp2_with (first | (go_at_call 16; refine (truth_any _ _).mono ?_; rintro e w' ⟨rfl, rfl⟩) | (go_at_call 15; refine (divided_any _ _ _ _).mono ?_; rintro e w' ⟨rfl, rfl⟩))
      go_ret2
      exact ⟨rfl, rfl⟩
  by_cases h6 : k = 6
  · subst h6
    by_cases ha : a = 0
    · subst ha
      go_enter Try.func9, Try.ntmps9
      go_wp2_with (first | (go_at_call 16; refine (truth_any _ _).mono ?_; rintro e w' ⟨rfl, rfl⟩) | (go_at_call 15; refine (divided_any _ _ _ _).mono ?_; rintro e w' ⟨rfl, rfl⟩))
      go_ret2
      exact ⟨rfl, rfl⟩
    · have he : (a == 0) = false := by simpa using ha
      have hn : (a != 0) = true := by simpa using ha
      have hw : bw 6 a b = tw (a != 0 && b != 0) := rfl
      rw [hw]
      clear hw hn he
      go_enter Try.func9, Try.ntmps9
      go_wp2_with (first | (go_at_call 16; refine (truth_any _ _).mono ?_; rintro e w' ⟨rfl, rfl⟩) | (go_at_call 15; refine (divided_any _ _ _ _).mono ?_; rintro e w' ⟨rfl, rfl⟩))
      go_ret2
      exact ⟨rfl, rfl⟩
  by_cases h7 : k = 7
  · subst h7
    by_cases ha : a = 0
    · subst ha
      go_enter Try.func9, Try.ntmps9
      go_wp2_with (first | (go_at_call 16; refine (truth_any _ _).mono ?_; rintro e w' ⟨rfl, rfl⟩) | (go_at_call 15; refine (divided_any _ _ _ _).mono ?_; rintro e w' ⟨rfl, rfl⟩))
      go_ret2
      exact ⟨rfl, rfl⟩
    · have he : (a == 0) = false := by simpa using ha
      have hn : (a != 0) = true := by simpa using ha
      have hw : bw 7 a b = tw (a != 0 || b != 0) := rfl
      rw [hw, hn]
      clear hw hn he
      go_enter Try.func9, Try.ntmps9
      go_wp2_with (first | (go_at_call 16; refine (truth_any _ _).mono ?_; rintro e w' ⟨rfl, rfl⟩) | (go_at_call 15; refine (divided_any _ _ _ _).mono ?_; rintro e w' ⟨rfl, rfl⟩))
      go_ret2
      exact ⟨rfl, rfl⟩
  by_cases h8 : k = 8
  · subst h8
    go_enter Try.func9, Try.ntmps9
    go_wp2_with (first | (go_at_call 16; refine (truth_any _ _).mono ?_; rintro e w' ⟨rfl, rfl⟩) | (go_at_call 15; refine (divided_any _ _ _ _).mono ?_; rintro e w' ⟨rfl, rfl⟩))
    go_ret2
    exact ⟨rfl, rfl⟩
  by_cases h9 : k = 9
  · subst h9
    go_enter Try.func9, Try.ntmps9
    go_wp2_with (first | (go_at_call 16; refine (truth_any _ _).mono ?_; rintro e w' ⟨rfl, rfl⟩) | (go_at_call 15; refine (divided_any _ _ _ _).mono ?_; rintro e w' ⟨rfl, rfl⟩))
    go_ret2
    exact ⟨rfl, rfl⟩
  by_cases h10 : k = 10
  · subst h10
    go_enter Try.func9, Try.ntmps9
    go_wp2_with (first | (go_at_call 16; refine (truth_any _ _).mono ?_; rintro e w' ⟨rfl, rfl⟩) | (go_at_call 15; refine (divided_any _ _ _ _).mono ?_; rintro e w' ⟨rfl, rfl⟩))
    go_ret2
    exact ⟨rfl, rfl⟩
  by_cases h11 : k = 11
  · subst h11
    go_enter Try.func9, Try.ntmps9
    go_wp2_with (first | (go_at_call 16; refine (truth_any _ _).mono ?_; rintro e w' ⟨rfl, rfl⟩) | (go_at_call 15; refine (divided_any _ _ _ _).mono ?_; rintro e w' ⟨rfl, rfl⟩))
    go_ret2
    exact ⟨rfl, rfl⟩
  have hw : bw k a b = 0 := by unfold bw; rw [if_neg h1, if_neg h2, if_neg h3, if_neg h4, if_neg h5, if_neg h6, if_neg h7, if_neg h8, if_neg h9, if_neg h10, if_neg h11]
  have hv : be k b = 0 := by simp [be, h4, h5]
  rw [hw, hv]; clear hw hv
  go_enter Try.func9, Try.ntmps9
  go_wp2_with (first | (go_at_call 16; refine (truth_any _ _).mono ?_; rintro e w' ⟨rfl, rfl⟩) | (go_at_call 15; refine (divided_any _ _ _ _).mono ?_; rintro e w' ⟨rfl, rfl⟩))
  go_ret2
  exact ⟨rfl, rfl⟩

set_option maxHeartbeats 1000000 in
theorem rbinary_any (k a b : Int) (w : World) :
    Calls Try.prog 10 #[.int .i64 k, .int .i64 a, .int .i64 b] w fun e w' => e = .returned (.tuple #[.int .i64 (bw k a b), .int .i64 (be k b)]) ∧ w = w' := by
  by_cases h1 : k = 1
  · subst h1
    go_enter Try.func10, Try.ntmps10
    go_wp2_with (go_at_call 17; refine (rtruth_any _ _).mono ?_; rintro e w' ⟨rfl, rfl⟩)
    go_ret2
    exact ⟨rfl, rfl⟩
  by_cases h2 : k = 2
  · subst h2
    go_enter Try.func10, Try.ntmps10
    go_wp2_with (go_at_call 17; refine (rtruth_any _ _).mono ?_; rintro e w' ⟨rfl, rfl⟩)
    go_ret2
    exact ⟨rfl, rfl⟩
  by_cases h3 : k = 3
  · subst h3
    go_enter Try.func10, Try.ntmps10
    go_wp2_with (go_at_call 17; refine (rtruth_any _ _).mono ?_; rintro e w' ⟨rfl, rfl⟩)
    go_ret2
    exact ⟨rfl, rfl⟩
  by_cases h4 : k = 4
  · subst h4
    by_cases hb : b = 0
    · subst hb
      go_enter Try.func10, Try.ntmps10
      go_wp2_with (go_at_call 17; refine (rtruth_any _ _).mono ?_; rintro e w' ⟨rfl, rfl⟩)
      go_ret2
      exact ⟨rfl, rfl⟩
    · have hw : bw 4 a b = wrap64 (a.tdiv b) := if_neg hb
      have hv : be 4 b = 0 := by simp [be, hb]
      rw [hw, hv]; clear hw hv
      go_enter Try.func10, Try.ntmps10
      go_wp2_with (go_at_call 17; refine (rtruth_any _ _).mono ?_; rintro e w' ⟨rfl, rfl⟩)
      go_ret2
      exact ⟨rfl, rfl⟩
  by_cases h5 : k = 5
  · subst h5
    by_cases hb : b = 0
    · subst hb
      go_enter Try.func10, Try.ntmps10
      go_wp2_with (go_at_call 17; refine (rtruth_any _ _).mono ?_; rintro e w' ⟨rfl, rfl⟩)
      go_ret2
      exact ⟨rfl, rfl⟩
    · have hw : bw 5 a b = a.tmod b := if_neg hb
      have hv : be 5 b = 0 := by simp [be, hb]
      rw [hw, hv]; clear hw hv
      go_enter Try.func10, Try.ntmps10
      go_wp2_with (go_at_call 17; refine (rtruth_any _ _).mono ?_; rintro e w' ⟨rfl, rfl⟩)
      go_ret2
      exact ⟨rfl, rfl⟩
  by_cases h6 : k = 6
  · subst h6
    by_cases ha : a = 0
    · subst ha
      go_enter Try.func10, Try.ntmps10
      go_wp2_with (go_at_call 17; refine (rtruth_any _ _).mono ?_; rintro e w' ⟨rfl, rfl⟩)
      go_ret2
      exact ⟨rfl, rfl⟩
    · have he : (a == 0) = false := by simpa using ha
      have hn : (a != 0) = true := by simpa using ha
      have hw : bw 6 a b = tw (a != 0 && b != 0) := rfl
      rw [hw]
      clear hw hn he
      go_enter Try.func10, Try.ntmps10
      go_wp2_with (go_at_call 17; refine (rtruth_any _ _).mono ?_; rintro e w' ⟨rfl, rfl⟩)
      go_ret2
      exact ⟨rfl, rfl⟩
  by_cases h7 : k = 7
  · subst h7
    by_cases ha : a = 0
    · subst ha
      go_enter Try.func10, Try.ntmps10
      go_wp2_with (go_at_call 17; refine (rtruth_any _ _).mono ?_; rintro e w' ⟨rfl, rfl⟩)
      go_ret2
      exact ⟨rfl, rfl⟩
    · have he : (a == 0) = false := by simpa using ha
      have hn : (a != 0) = true := by simpa using ha
      have hw : bw 7 a b = tw (a != 0 || b != 0) := rfl
      rw [hw, hn]
      clear hw hn he
      go_enter Try.func10, Try.ntmps10
      go_wp2_with (go_at_call 17; refine (rtruth_any _ _).mono ?_; rintro e w' ⟨rfl, rfl⟩)
      go_ret2
      exact ⟨rfl, rfl⟩
  by_cases h8 : k = 8
  · subst h8
    go_enter Try.func10, Try.ntmps10
    go_wp2_with (go_at_call 17; refine (rtruth_any _ _).mono ?_; rintro e w' ⟨rfl, rfl⟩)
    go_ret2
    exact ⟨rfl, rfl⟩
  by_cases h9 : k = 9
  · subst h9
    go_enter Try.func10, Try.ntmps10
    go_wp2_with (go_at_call 17; refine (rtruth_any _ _).mono ?_; rintro e w' ⟨rfl, rfl⟩)
    go_ret2
    exact ⟨rfl, rfl⟩
  by_cases h10 : k = 10
  · subst h10
    go_enter Try.func10, Try.ntmps10
    go_wp2_with (go_at_call 17; refine (rtruth_any _ _).mono ?_; rintro e w' ⟨rfl, rfl⟩)
    go_ret2
    exact ⟨rfl, rfl⟩
  by_cases h11 : k = 11
  · subst h11
    go_enter Try.func10, Try.ntmps10
    go_wp2_with (go_at_call 17; refine (rtruth_any _ _).mono ?_; rintro e w' ⟨rfl, rfl⟩)
    go_ret2
    exact ⟨rfl, rfl⟩
  have hw : bw k a b = 0 := by unfold bw; rw [if_neg h1, if_neg h2, if_neg h3, if_neg h4, if_neg h5, if_neg h6, if_neg h7, if_neg h8, if_neg h9, if_neg h10, if_neg h11]
  have hv : be k b = 0 := by simp [be, h4, h5]
  rw [hw, hv]; clear hw hv
  go_enter Try.func10, Try.ntmps10
  go_wp2_with (go_at_call 17; refine (rtruth_any _ _).mono ?_; rintro e w' ⟨rfl, rfl⟩)
  go_ret2
  exact ⟨rfl, rfl⟩

set_option maxHeartbeats 400000 in
theorem unary_any (k a : Int) (w : World) :
    Calls Try.prog 11 #[.int .i64 k, .int .i64 a] w fun e w' => e = .returned (.tuple #[.int .i64 (uw k a), .bool (ub k)]) ∧ w = w' := by
  by_cases h1 : k = 1
  · subst h1
    go_enter Try.func11, Try.ntmps11
    go_wp2_with (first | (go_at_call 16; refine (truth_any _ _).mono ?_; rintro e w' ⟨rfl, rfl⟩) | (go_at_call 15; refine (divided_any _ _ _ _).mono ?_; rintro e w' ⟨rfl, rfl⟩))
    go_ret2
    exact ⟨rfl, rfl⟩
  by_cases h2 : k = 2
  · subst h2
    go_enter Try.func11, Try.ntmps11
    go_wp2_with (first | (go_at_call 16; refine (truth_any _ _).mono ?_; rintro e w' ⟨rfl, rfl⟩) | (go_at_call 15; refine (divided_any _ _ _ _).mono ?_; rintro e w' ⟨rfl, rfl⟩))
    go_ret2
    exact ⟨rfl, rfl⟩
  have hw : uw k a = 0 := by unfold uw; rw [if_neg h1, if_neg h2]
  have hv : ub k = false := by simp [ub, h1, h2]
  rw [hw, hv]; clear hw hv
  go_enter Try.func11, Try.ntmps11
  go_wp2_with (first | (go_at_call 16; refine (truth_any _ _).mono ?_; rintro e w' ⟨rfl, rfl⟩) | (go_at_call 15; refine (divided_any _ _ _ _).mono ?_; rintro e w' ⟨rfl, rfl⟩))
  go_ret2
  exact ⟨rfl, rfl⟩

set_option maxHeartbeats 400000 in
theorem runary_any (k a : Int) (w : World) :
    Calls Try.prog 12 #[.int .i64 k, .int .i64 a] w fun e w' => e = .returned (.tuple #[.int .i64 (uw k a), .bool (ub k)]) ∧ w = w' := by
  by_cases h1 : k = 1
  · subst h1
    go_enter Try.func12, Try.ntmps12
    go_wp2_with (go_at_call 17; refine (rtruth_any _ _).mono ?_; rintro e w' ⟨rfl, rfl⟩)
    go_ret2
    exact ⟨rfl, rfl⟩
  by_cases h2 : k = 2
  · subst h2
    go_enter Try.func12, Try.ntmps12
    go_wp2_with (go_at_call 17; refine (rtruth_any _ _).mono ?_; rintro e w' ⟨rfl, rfl⟩)
    go_ret2
    exact ⟨rfl, rfl⟩
  have hw : uw k a = 0 := by unfold uw; rw [if_neg h1, if_neg h2]
  have hv : ub k = false := by simp [ub, h1, h2]
  rw [hw, hv]; clear hw hv
  go_enter Try.func12, Try.ntmps12
  go_wp2_with (go_at_call 17; refine (rtruth_any _ _).mono ?_; rintro e w' ⟨rfl, rfl⟩)
  go_ret2
  exact ⟨rfl, rfl⟩

end Go.Proofs.Ytegkhbakemddhaa
