/- Package word's Sign and the document's. -/
import Derived.Test.YtegkhbakemddhaaRows
import Derived.WalkKit
import Derived.WalkSpells
import Derived.WalkLawsBesides
import Derived.Lib.Hide
import Derived.Lib.Strings
set_option linter.unusedVariables false
set_option maxRecDepth 100000
namespace Go.Proofs.Ytegkhbakemddhaa
open Go.RowKit

/-- the signs with two operands, in their order -/
def signsL : List (List UInt8) := [[43], [45], [42], [47], [37], [38], [124], [60], [60, 61], [61, 61], [33, 61]]
/-- the number of an operator with one operand -/
def sg1 (l : List UInt8) : Int := if l = [45] then 1 else if l = [33] then 2 else 0
/-- the number of an operator with two operands -/
def sg2 (l : List UInt8) : Int := if l = [43] then 1 else if l = [45] then 2 else if l = [42] then 3 else if l = [47] then 4 else if l = [37] then 5 else if l = [38] then 6 else if l = [124] then 7 else if l = [60] then 8 else if l = [60, 61] then 9 else if l = [61, 61] then 10 else if l = [33, 61] then 11 else 0
def sg (l : List UInt8) (n : Int) : Int := if n = 1 then sg1 l else if n = 2 then sg2 l else 0

set_option maxHeartbeats 1000000 in
theorem signs1_any (s : ByteArray) (w : World) :
    Calls Try.prog 18 #[.string s] w fun e w' => e = .returned (.int .i64 (sg1 s.toList)) ∧ w = w' := by
  by_cases h0 : s.toList = [45]
  · have hv : sg1 s.toList = 1 := by rw [h0]; rfl
    rw [hv]; clear hv
    go_enter Try.func18, Try.ntmps18
    go_wp2
    go_ret
    exact ⟨rfl, rfl⟩
  by_cases h1 : s.toList = [33]
  · have hv : sg1 s.toList = 2 := by rw [h1]; rfl
    rw [hv]; clear hv
    clear h0
    go_enter Try.func18, Try.ntmps18
    go_wp2
    go_ret
    exact ⟨rfl, rfl⟩
  have hv : sg1 s.toList = 0 := by unfold sg1; rw [if_neg h0, if_neg h1]
  rw [hv]; clear hv
  have e0 : (s.toList == [45]) = false := by simpa using h0
  clear h0
  have e1 : (s.toList == [33]) = false := by simpa using h1
  clear h1
  go_enter Try.func18, Try.ntmps18
  go_wp2
  go_ret
  exact ⟨rfl, rfl⟩

set_option maxHeartbeats 1000000 in
theorem signs2_any (s : ByteArray) (w : World) :
    Calls Try.prog 19 #[.string s] w fun e w' => e = .returned (.int .i64 (sg2 s.toList)) ∧ w = w' := by
  by_cases h0 : s.toList = [43]
  · have hv : sg2 s.toList = 1 := by rw [h0]; rfl
    rw [hv]; clear hv
    go_enter Try.func19, Try.ntmps19
    go_wp2
    go_ret
    exact ⟨rfl, rfl⟩
  by_cases h1 : s.toList = [45]
  · have hv : sg2 s.toList = 2 := by rw [h1]; rfl
    rw [hv]; clear hv
    clear h0
    go_enter Try.func19, Try.ntmps19
    go_wp2
    go_ret
    exact ⟨rfl, rfl⟩
  by_cases h2 : s.toList = [42]
  · have hv : sg2 s.toList = 3 := by rw [h2]; rfl
    rw [hv]; clear hv
    clear h0
    clear h1
    go_enter Try.func19, Try.ntmps19
    go_wp2
    go_ret
    exact ⟨rfl, rfl⟩
  by_cases h3 : s.toList = [47]
  · have hv : sg2 s.toList = 4 := by rw [h3]; rfl
    rw [hv]; clear hv
    clear h0
    clear h1
    clear h2
    go_enter Try.func19, Try.ntmps19
    go_wp2
    go_ret
    exact ⟨rfl, rfl⟩
  by_cases h4 : s.toList = [37]
  · have hv : sg2 s.toList = 5 := by rw [h4]; rfl
    rw [hv]; clear hv
    clear h0
    clear h1
    clear h2
    clear h3
    go_enter Try.func19, Try.ntmps19
    go_wp2
    go_ret
    exact ⟨rfl, rfl⟩
  by_cases h5 : s.toList = [38]
  · have hv : sg2 s.toList = 6 := by rw [h5]; rfl
    rw [hv]; clear hv
    clear h0
    clear h1
    clear h2
    clear h3
    clear h4
    go_enter Try.func19, Try.ntmps19
    go_wp2
    go_ret
    exact ⟨rfl, rfl⟩
  by_cases h6 : s.toList = [124]
  · have hv : sg2 s.toList = 7 := by rw [h6]; rfl
    rw [hv]; clear hv
    clear h0
    clear h1
    clear h2
    clear h3
    clear h4
    clear h5
    go_enter Try.func19, Try.ntmps19
    go_wp2
    go_ret
    exact ⟨rfl, rfl⟩
  by_cases h7 : s.toList = [60]
  · have hv : sg2 s.toList = 8 := by rw [h7]; rfl
    rw [hv]; clear hv
    clear h0
    clear h1
    clear h2
    clear h3
    clear h4
    clear h5
    clear h6
    go_enter Try.func19, Try.ntmps19
    go_wp2
    go_ret
    exact ⟨rfl, rfl⟩
  by_cases h8 : s.toList = [60, 61]
  · have hv : sg2 s.toList = 9 := by rw [h8]; rfl
    rw [hv]; clear hv
    clear h0
    clear h1
    clear h2
    clear h3
    clear h4
    clear h5
    clear h6
    clear h7
    go_enter Try.func19, Try.ntmps19
    go_wp2
    go_ret
    exact ⟨rfl, rfl⟩
  by_cases h9 : s.toList = [61, 61]
  · have hv : sg2 s.toList = 10 := by rw [h9]; rfl
    rw [hv]; clear hv
    clear h0
    clear h1
    clear h2
    clear h3
    clear h4
    clear h5
    clear h6
    clear h7
    clear h8
    go_enter Try.func19, Try.ntmps19
    go_wp2
    go_ret
    exact ⟨rfl, rfl⟩
  by_cases h10 : s.toList = [33, 61]
  · have hv : sg2 s.toList = 11 := by rw [h10]; rfl
    rw [hv]; clear hv
    clear h0
    clear h1
    clear h2
    clear h3
    clear h4
    clear h5
    clear h6
    clear h7
    clear h8
    clear h9
    go_enter Try.func19, Try.ntmps19
    go_wp2
    go_ret
    exact ⟨rfl, rfl⟩
  have hv : sg2 s.toList = 0 := by unfold sg2; rw [if_neg h0, if_neg h1, if_neg h2, if_neg h3, if_neg h4, if_neg h5, if_neg h6, if_neg h7, if_neg h8, if_neg h9, if_neg h10]
  rw [hv]; clear hv
  have e0 : (s.toList == [43]) = false := by simpa using h0
  clear h0
  have e1 : (s.toList == [45]) = false := by simpa using h1
  clear h1
  have e2 : (s.toList == [42]) = false := by simpa using h2
  clear h2
  have e3 : (s.toList == [47]) = false := by simpa using h3
  clear h3
  have e4 : (s.toList == [37]) = false := by simpa using h4
  clear h4
  have e5 : (s.toList == [38]) = false := by simpa using h5
  clear h5
  have e6 : (s.toList == [124]) = false := by simpa using h6
  clear h6
  have e7 : (s.toList == [60]) = false := by simpa using h7
  clear h7
  have e8 : (s.toList == [60, 61]) = false := by simpa using h8
  clear h8
  have e9 : (s.toList == [61, 61]) = false := by simpa using h9
  clear h9
  have e10 : (s.toList == [33, 61]) = false := by simpa using h10
  clear h10
  go_enter Try.func19, Try.ntmps19
  go_wp2
  go_ret
  exact ⟨rfl, rfl⟩

set_option maxHeartbeats 400000 in
theorem sign_any (s : ByteArray) (n : Int) (w : World) :
    Calls Try.prog 13 #[.string s, .int .i64 n] w fun e w' => e = .returned (.int .i64 (sg s.toList n)) ∧ w = w' := by
  obtain ⟨L, hL⟩ : ∃ L, L = s.toList := ⟨_, rfl⟩
  rw [← hL]
  have h1 : ∀ wx, Calls Try.prog 18 #[.string s] wx fun e w' => e = .returned (.int .i64 (sg1 L)) ∧ wx = w' := fun wx => by rw [hL]; exact signs1_any s wx
  have h2 : ∀ wx, Calls Try.prog 19 #[.string s] wx fun e w' => e = .returned (.int .i64 (sg2 L)) ∧ wx = w' := fun wx => by rw [hL]; exact signs2_any s wx
  have H1 := Lib.hid h1
  have H2 := Lib.hid h2
  clear h1 h2 hL
  by_cases k1 : n = 1
  · subst k1
    go_enter Try.func13, Try.ntmps13
    go_wp2_with (go_at_call 18; refine (H1.out _).mono ?_; rintro e w' ⟨rfl, rfl⟩)
    go_ret
    exact ⟨rfl, rfl⟩
  · by_cases k2 : n = 2
    · subst k2
      go_enter Try.func13, Try.ntmps13
      go_wp2_with (go_at_call 19; refine (H2.out _).mono ?_; rintro e w' ⟨rfl, rfl⟩)
      go_ret
      exact ⟨rfl, rfl⟩
    · have hv : sg L n = 0 := by unfold sg; rw [if_neg k1, if_neg k2]
      rw [hv]; clear hv
      go_enter Try.func13, Try.ntmps13
      go_wp2
      go_ret
      exact ⟨rfl, rfl⟩

end Go.Proofs.Ytegkhbakemddhaa
