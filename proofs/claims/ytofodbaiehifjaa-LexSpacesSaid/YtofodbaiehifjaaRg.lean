/- Names: what the program says of them and what the document says. -/
import Derived.Test.YtofodbaiehifjaaRf
set_option linter.unusedVariables false
namespace Go.Proofs.Ytofodbaiehifjaa
open Go.RowKit

def nameB (l : List UInt8) : Bool := decide ((firstOf l).1 = 1 ∧ (firstOf l).2 = l.length ∧ l.length ≤ 16)
def spelledB (l : List UInt8) : Bool := decide (0 < l.length ∧ nameLen l = l.length)

theorem run_all {p : UInt8 → Bool} {l : List UInt8} : runOf p l = l.length ↔ ∀ (j : Nat) (h : j < l.length), p l[j] = true := by
  unfold runOf
  induction l with
  | nil => simp
  | cons c r ih =>
    rw [List.takeWhile_cons]
    by_cases hc : p c = true
    · rw [if_pos hc]
      constructor
      · intro h j hj
        have h' : (r.takeWhile p).length = r.length := by simpa using h
        cases j with
        | zero => exact hc
        | succ j => exact (ih.1 h') j (by simpa using hj)
      · intro h
        have := ih.2 (fun j hj => h (j + 1) (by simpa using hj))
        simpa using this
    · rw [if_neg hc]
      constructor
      · intro h; simp at h
      · intro h; exact absurd (h 0 (by simp)) hc
/-- a byte that a name may have at a place -/
def goodB (k : Nat) (c : UInt8) : Bool := small c || (decide (0 < k) && (digit c || c.toNat == 95))
theorem good_tail {k : Nat} {c : UInt8} (h : goodB k c = true) : tailB c = true := by
  unfold goodB at h; unfold tailB
  revert h
  cases small c <;> cases digit c <;> simp
theorem good_of_tail {k : Nat} {c : UInt8} (hk : 0 < k) (h : tailB c = true) : goodB k c = true := by
  unfold tailB at h; unfold goodB
  revert h
  cases small c <;> cases digit c <;> simp [hk]
theorem spelled_iff (l : List UInt8) : spelledB l = true ↔ 0 < l.length ∧ ∀ (j : Nat) (h : j < l.length), goodB j l[j] = true := by
  unfold spelledB
  rw [decide_eq_true_eq]
  constructor
  · rintro ⟨h0, h1⟩
    refine ⟨h0, ?_⟩
    cases l with
    | nil => simp at h0
    | cons c r =>
      rw [nameLen_cons] at h1
      by_cases hc : small c = true
      · rw [if_pos hc] at h1
        have ha := run_all.1 h1
        intro j hj
        cases j with
        | zero => simp [goodB, hc]
        | succ j => exact good_of_tail (by omega) (ha _ hj)
      · rw [if_neg hc] at h1; simp at h1
  · rintro ⟨h0, h1⟩
    refine ⟨h0, ?_⟩
    cases l with
    | nil => simp at h0
    | cons c r =>
      have hc : small c = true := by have := h1 0 h0; simpa [goodB] using this
      rw [nameLen_cons, if_pos hc]
      exact run_all.2 fun j hj => good_tail (h1 j hj)
theorem name_said (l : List UInt8) : nameB l = (decide (l.length ≤ 16) && spelledB l && !isWord l) := by
  rw [Bool.eq_iff_iff]
  simp only [nameB, spelledB, Bool.and_eq_true, decide_eq_true_eq, Bool.not_eq_true']
  by_cases hn : 0 < nameLen l
  · rw [first_name hn]
    simp only
    constructor
    · rintro ⟨h1, h2, h3⟩
      rw [h2, List.take_length] at h1
      refine ⟨⟨h3, by omega, h2⟩, ?_⟩
      cases hw : isWord l
      · rfl
      · rw [hw] at h1; simp at h1
    · rintro ⟨⟨h3, h4, h2⟩, h5⟩
      refine ⟨?_, h2, h3⟩
      rw [h2, List.take_length, h5]; rfl
  · constructor
    · rintro ⟨h1, h2, h3⟩
      unfold firstOf at h1
      rw [if_neg hn] at h1
      split at h1
      · simp at h1
      · split at h1 <;> simp at h1
    · rintro ⟨⟨h3, h4, h2⟩, h5⟩
      omega

theorem name_any (s : ByteArray) (w : World) (hs : s.size ≤ 40000) : Calls Try.prog 13 #[.string s] w fun e w' => e = .returned (.bool (nameB s.data.toList)) ∧ Below w.heap.size w w' := by
  obtain ⟨k, hk⟩ : ∃ k, k = (firstOf s.data.toList).1 := ⟨_, rfl⟩
  obtain ⟨z, hz⟩ : ∃ z, z = (firstOf s.data.toList).2 := ⟨_, rfl⟩
  have c1 : ∀ w, Calls Try.prog 18 #[.string s] w fun e w' => e = .returned (.tuple #[.int .i64 (k : Nat), .int .i64 (z : Nat)]) ∧ Below w.heap.size w w' := fun w => by
    have h := first_any s w hs
    unfold firstV at h
    rw [← hk, ← hz] at h
    exact h
  have hq : nameB s.data.toList = decide (k = 1 ∧ z = s.size ∧ s.size ≤ 16) := by unfold nameB; rw [← hk, ← hz, ← size_len]
  have HQ := Lib.hid hq
  clear hk hz hq
  by_cases h1 : k = 1
  · subst h1
    by_cases h2 : z = s.size
    · subst h2
      go_enter Try.func13, Try.ntmps13
      go_wp2_with (go_at_call 18; refine (c1 _).mono ?_; rintro e w1 ⟨rfl, hb1⟩)
      go_ret
      exact ⟨ret_bool (by rw [HQ.out]; simp; omega), hb1⟩
    · have h2' : ((z : Int) == (s.size : Int)) = false := by rw [beq_eq_false_iff_ne]; omega
      have H2 := Lib.hid h2
      clear h2
      go_enter Try.func13, Try.ntmps13
      go_wp2_with (go_at_call 18; refine (c1 _).mono ?_; rintro e w1 ⟨rfl, hb1⟩)
      go_ret
      exact ⟨ret_bool (by rw [HQ.out]; simp [H2.out]), hb1⟩
  · have h1' : ((k : Int) == 1) = false := by rw [beq_eq_false_iff_ne]; omega
    have H1 := Lib.hid h1
    clear h1
    go_enter Try.func13, Try.ntmps13
    go_wp2_with (go_at_call 18; refine (c1 _).mono ?_; rintro e w1 ⟨rfl, hb1⟩)
    go_ret
    exact ⟨ret_bool (by rw [HQ.out]; simp [H1.out]), hb1⟩

end Go.Proofs.Ytofodbaiehifjaa
