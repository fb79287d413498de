/- The walks of the small functions of package lex. -/
import Derived.Test.YtadkimnpeachpaaGreatDoorRows
import Derived.Test.YtadkimnpeachpaaGreatDoorRa
import Derived.Test.YtadkimnpeachpaaGreatDoorRs
import Derived.WalkKit
import Derived.WalkSpells
import Derived.WalkLawsBesides
import Derived.Lib.Hide
namespace Go.Proofs.YtadkimnpeachpaaGreatDoor
open Go.RowKit

theorem ret_bool {a b : Bool} (h : a = b) : Ending.returned (.bool a) = .returned (.bool b) := by rw [h]
theorem ret_int {k : IntKind} {a b : Int} (h : a = b) : Ending.returned (.int k a) = .returned (.int k b) := by rw [h]

theorem isBlank_any (c : UInt8) (w : World) : Calls Tryz.prog 84 #[.int .u8 c.toNat] w fun e w' => e = .returned (.bool (blankB c)) ∧ w = w' := by
  go_enter Tryz.func84, Tryz.ntmps84
  go_wp2
  all_goals
    go_ret
    exact ⟨ret_bool (by rw [Bool.eq_iff_iff]; simp [blankB]; omega), rfl⟩
theorem isLetter_any (c : UInt8) (w : World) : Calls Tryz.prog 170 #[.int .u8 c.toNat] w fun e w' => e = .returned (.bool (small c)) ∧ w = w' := by
  go_enter Tryz.func170, Tryz.ntmps170
  go_wp2
  all_goals
    go_ret
    exact ⟨ret_bool (by rw [Bool.eq_iff_iff]; simp [small]; omega), rfl⟩
theorem isDigit_any (c : UInt8) (w : World) : Calls Tryz.prog 127 #[.int .u8 c.toNat] w fun e w' => e = .returned (.bool (digit c)) ∧ w = w' := by
  go_enter Tryz.func127, Tryz.ntmps127
  go_wp2
  all_goals
    go_ret
    exact ⟨ret_bool (by rw [Bool.eq_iff_iff]; simp [digit]; omega), rfl⟩
theorem isTail_any (c : UInt8) (w : World) : Calls Tryz.prog 171 #[.int .u8 c.toNat] w fun e w' => e = .returned (.bool (tailB c)) ∧ w = w' := by
  go_enter Tryz.func171, Tryz.ntmps171
  go_wp2_with (first
    | (go_at_call 170; refine (isLetter_any _ _).mono ?_; rintro e w' ⟨rfl, rfl⟩)
    | (go_at_call 127; refine (isDigit_any _ _).mono ?_; rintro e w' ⟨rfl, rfl⟩))
  all_goals
    go_ret
    exact ⟨ret_bool (by rw [Bool.eq_iff_iff]; simp [tailB, *]; try omega), rfl⟩

set_option maxHeartbeats 400000 in
theorem run_digit (s : ByteArray) (w : World) (hs : s.size ≤ 40000) : Calls Tryz.prog 126 #[.string s, .func (.func 127) #[] #[]] w fun e w' => e = .returned (.int .i64 (runOf digit s.data.toList)) ∧ w = w' := by
  go_enter Tryz.func126, Tryz.ntmps126
  go_wp2
  go_loop [5] (fun x => ∃ k : Nat, k ≤ s.size ∧ x = .int .i64 k ∧ Hid (k + runOf digit (s.data.toList.drop k) = runOf digit s.data.toList)) (fun x => s.size - (intOf x).toNat)
  case atStart => exact ⟨0, Nat.zero_le _, rfl, Lib.hid (by simp)⟩
  case round =>
    obtain ⟨k, hk, rfl, HR⟩ := hrel
    by_cases hlt : k < s.size
    · have hl : k < s.data.toList.length := by simpa using hlt
      have hg : s.data.toList[k] = s[k] := rfl
      by_cases hp : digit s[k] = true
      · have HN := Lib.hid (runOf_go hl (hg ▸ hp))
        go_wp2_with (first | (go_at_call 127; refine (isDigit_any _ _).mono ?_; rintro e w' ⟨rfl, rfl⟩))
        go_round
        case rel => exact ⟨k + 1, by omega, by go_num, Lib.hid (by have := HR.out; have := HN.out; omega)⟩
        case measure => simp [intOf]; omega
      · have hp' : digit s[k] = false := by simpa using hp
        clear hp
        have HN := Lib.hid (runOf_no hl (hg ▸ hp'))
        go_wp2_with (first | (go_at_call 127; refine (isDigit_any _ _).mono ?_; rintro e w' ⟨rfl, rfl⟩))
        go_ret
        exact ⟨ret_int (by have := HR.out; have := HN.out; omega), rfl⟩
    · have HN := Lib.hid (runOf_end (p := digit) (l := s.data.toList) (k := k) (by simpa using hlt))
      go_wp2
      go_ret
      exact ⟨ret_int (by have := HR.out; have := HN.out; omega), rfl⟩

set_option maxHeartbeats 400000 in
theorem run_tail (s : ByteArray) (w : World) (hs : s.size ≤ 40000) : Calls Tryz.prog 126 #[.string s, .func (.func 171) #[] #[]] w fun e w' => e = .returned (.int .i64 (runOf tailB s.data.toList)) ∧ w = w' := by
  go_enter Tryz.func126, Tryz.ntmps126
  go_wp2
  go_loop [5] (fun x => ∃ k : Nat, k ≤ s.size ∧ x = .int .i64 k ∧ Hid (k + runOf tailB (s.data.toList.drop k) = runOf tailB s.data.toList)) (fun x => s.size - (intOf x).toNat)
  case atStart => exact ⟨0, Nat.zero_le _, rfl, Lib.hid (by simp)⟩
  case round =>
    obtain ⟨k, hk, rfl, HR⟩ := hrel
    by_cases hlt : k < s.size
    · have hl : k < s.data.toList.length := by simpa using hlt
      have hg : s.data.toList[k] = s[k] := rfl
      by_cases hp : tailB s[k] = true
      · have HN := Lib.hid (runOf_go hl (hg ▸ hp))
        go_wp2_with (first | (go_at_call 171; refine (isTail_any _ _).mono ?_; rintro e w' ⟨rfl, rfl⟩))
        go_round
        case rel => exact ⟨k + 1, by omega, by go_num, Lib.hid (by have := HR.out; have := HN.out; omega)⟩
        case measure => simp [intOf]; omega
      · have hp' : tailB s[k] = false := by simpa using hp
        clear hp
        have HN := Lib.hid (runOf_no hl (hg ▸ hp'))
        go_wp2_with (first | (go_at_call 171; refine (isTail_any _ _).mono ?_; rintro e w' ⟨rfl, rfl⟩))
        go_ret
        exact ⟨ret_int (by have := HR.out; have := HN.out; omega), rfl⟩
    · have HN := Lib.hid (runOf_end (p := tailB) (l := s.data.toList) (k := k) (by simpa using hlt))
      go_wp2
      go_ret
      exact ⟨ret_int (by have := HR.out; have := HN.out; omega), rfl⟩

theorem bytes_nil {s : ByteArray} (h : s.data.toList = []) : s = ⟨#[]⟩ := by
  obtain ⟨⟨l⟩⟩ := s
  simp at h
  rw [h]
theorem bytes_cons {s : ByteArray} (h : s.data.toList ≠ []) : ∃ h0 : 0 < s.size, ∃ r, s.data.toList = s[0] :: r := by
  obtain ⟨⟨l⟩⟩ := s
  cases l with
  | nil => exact absurd rfl h
  | cons c r => exact ⟨Nat.zero_lt_succ _, r, rfl⟩

theorem nameSize_any (s : ByteArray) (w : World) (hs : s.size ≤ 40000) : Calls Tryz.prog 124 #[.string s] w fun e w' => e = .returned (.int .i64 (nameLen s.data.toList)) ∧ w = w' := by
  by_cases hn : s.data.toList = []
  · obtain rfl := bytes_nil hn
    go_enter Tryz.func124, Tryz.ntmps124
    go_wp2
    go_ret
    exact ⟨rfl, rfl⟩
  · obtain ⟨h0, r, hr⟩ := bytes_cons hn
    have hne : s.toList ≠ [] := by rw [Lib.toList_data]; exact hn
    have hne2 : (!s.toList.isEmpty) = true := by simpa using hne
    have hne3 : s.toList.isEmpty = false := by simpa using hne
    have HR := Lib.hid hr
    clear hr hn
    by_cases hp : small s[0] = true
    · go_enter Tryz.func124, Tryz.ntmps124
      go_wp2_with (first
        | (go_at_call 170; refine (isLetter_any _ _).mono ?_; rintro e w' ⟨rfl, rfl⟩)
        | (go_at_call 126; refine (run_tail _ _ hs).mono ?_; rintro e w' ⟨rfl, rfl⟩))
      go_ret
      exact ⟨ret_int (by rw [HR.out]; rw [nameLen_cons, if_pos hp]), rfl⟩
    · have hp' : small s[0] = false := by simpa using hp
      clear hp
      go_enter Tryz.func124, Tryz.ntmps124
      go_wp2_with (first
        | (go_at_call 170; refine (isLetter_any _ _).mono ?_; rintro e w' ⟨rfl, rfl⟩)
        | (go_at_call 126; refine (run_tail _ _ hs).mono ?_; rintro e w' ⟨rfl, rfl⟩))
      go_ret
      exact ⟨ret_int (by rw [HR.out]; rw [nameLen_cons, if_neg (by simp [hp'])]; rfl), rfl⟩

theorem word_any (s : ByteArray) (w : World) : Calls Tryz.prog 125 #[.string s] w fun e w' => e = .returned (.bool (isWord s.data.toList)) ∧ w = w' := by
  have HT := Lib.hid (Lib.toList_data s)
  go_enter Tryz.func125, Tryz.ntmps125
  go_wp2
  all_goals
    go_ret
    refine ⟨ret_bool ?_, rfl⟩
    rw [← HT.out]
    simp_all [isWord, wordsL]

end Go.Proofs.YtadkimnpeachpaaGreatDoor
