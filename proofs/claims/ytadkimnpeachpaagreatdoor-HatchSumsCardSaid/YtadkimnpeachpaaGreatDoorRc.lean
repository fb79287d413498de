/- The walks of signSize and first. -/
import Derived.Test.YtadkimnpeachpaaGreatDoorRb
import Derived.Lib.IndexAny
namespace Go.Proofs.YtadkimnpeachpaaGreatDoor
open Go.RowKit

theorem twoB_eq (l : List UInt8) : twoB l = (Lib.hasPrefix l [60, 61] || Lib.hasPrefix l [61, 61] || Lib.hasPrefix l [33, 61]) := rfl
theorem signLen_cons (c : UInt8) (r : List UInt8) : signLen (c :: r) = if twoB (c :: r) then 2 else if signsL.contains c then 1 else 0 := rfl
theorem signLen_nil : signLen [] = 0 := rfl
theorem byte_back (c : UInt8) : ((c.toNat : Int)).toNat.toUInt8 = c := by simp

theorem signSize_any (s : ByteArray) (w : World) : Calls Tryz.prog 128 #[.string s] w fun e w' => e = .returned (.int .i64 (signLen s.data.toList)) ∧ Below w.heap.size w w' := by
  have hmf : ∀ (fn : Fn) (first cap : Array Value) (w : World), (Instr.makeFunc fn first cap).run Tryz.prog w = .ok (.func fn first cap) w := fun _ _ _ _ => rfl
  by_cases hn : s.data.toList = []
  · obtain rfl := bytes_nil hn
    have h1 : Lib.hasPrefix (⟨#[]⟩ : ByteArray).data.toList [60, 61] = false := rfl
    have h2 : Lib.hasPrefix (⟨#[]⟩ : ByteArray).data.toList [61, 61] = false := rfl
    have h3 : Lib.hasPrefix (⟨#[]⟩ : ByteArray).data.toList [33, 61] = false := rfl
    go_enter Tryz.func128, Tryz.ntmps128
    go_wp2_with (first
      | (go_at_call 173; refine (strings_HasPrefix _ _ _).mono ?_; rintro e w' ⟨rfl, rfl⟩)
      | (go_at_call 174; refine (strings_IndexByte _ _ _).mono ?_; rintro e w' ⟨rfl, rfl⟩)
      | go_in)
    all_goals
      go_ret
      exact ⟨rfl, (Below.refl _ _).alloc (Nat.le_refl _) _⟩
  · obtain ⟨h0, r, hr⟩ := bytes_cons hn
    have hne : s.toList ≠ [] := by rw [Lib.toList_data]; exact hn
    have hne2 : (!s.toList.isEmpty) = true := by simpa using hne
    have hne3 : s.toList.isEmpty = false := by simpa using hne
    have HR := Lib.hid hr
    have hcb := byte_back s[0]
    have hci : signsL.contains s[0] = decide (0 ≤ Lib.indexByte signsL s[0]) := Lib.contains_iff_indexByte _ _
    unfold signsL at hci
    have HI := Lib.hid hci
    clear hr hn hci
    obtain ⟨b1, h1⟩ : ∃ b, b = Lib.hasPrefix s.data.toList [60, 61] := ⟨_, rfl⟩
    obtain ⟨b2, h2⟩ : ∃ b, b = Lib.hasPrefix s.data.toList [61, 61] := ⟨_, rfl⟩
    obtain ⟨b3, h3⟩ : ∃ b, b = Lib.hasPrefix s.data.toList [33, 61] := ⟨_, rfl⟩
    have HT : Hid (twoB s.data.toList = (b1 || b2 || b3)) := Lib.hid (by rw [twoB_eq, h1, h2, h3])
    have h1' := h1.symm
    have h2' := h2.symm
    have h3' := h3.symm
    clear h1 h2 h3
    go_enter Tryz.func128, Tryz.ntmps128
    go_wp2_with (first
      | (go_at_call 173; refine (strings_HasPrefix _ _ _).mono ?_; rintro e w' ⟨rfl, rfl⟩)
      | (go_at_call 174; refine (strings_IndexByte _ _ _).mono ?_; rintro e w' ⟨rfl, rfl⟩)
      | go_in)
    all_goals
      go_ret
      refine ⟨ret_int ?_, (Below.refl _ _).alloc (Nat.le_refl _) _⟩
      have HT' := HT.out
      rw [HR.out] at HT' ⊢
      rw [signLen_cons, HT']
      have HI' := HI.out
      unfold signsL
      rw [HI']
      first
        | (simp_all; done)
        | (simp_all; rw [if_neg (by omega)]; rfl)

def firstV (l : List UInt8) : Value := .tuple #[.int .i64 ((firstOf l).1 : Nat), .int .i64 ((firstOf l).2 : Nat)]
theorem first_name {l : List UInt8} (h : 0 < nameLen l) : firstOf l = (if isWord (l.take (nameLen l)) then 4 else 1, nameLen l) := by
  unfold firstOf; rw [if_pos h]
theorem first_digit {l : List UInt8} (h : nameLen l = 0) (h1 : 0 < runOf digit l) : firstOf l = (2, runOf digit l) := by
  unfold firstOf; rw [if_neg (by omega), if_pos h1]
theorem first_sign {l : List UInt8} (h : nameLen l = 0) (h1 : runOf digit l = 0) (h2 : 0 < signLen l) : firstOf l = (3, signLen l) := by
  unfold firstOf; rw [if_neg (by omega), if_neg (by omega), if_pos h2]
theorem first_no {l : List UInt8} (h : nameLen l = 0) (h1 : runOf digit l = 0) (h2 : signLen l = 0) : firstOf l = (0, 0) := by
  unfold firstOf; rw [if_neg (by omega), if_neg (by omega), if_neg (by omega)]
theorem take_word (s : ByteArray) (n : Nat) : (s.extract 0 n).data.toList = s.data.toList.take n := by
  rw [Lib.extract_data]; simp
theorem ret_tup {a b : Value} (h : a = b) : Ending.returned a = .returned b := by rw [h]

theorem first_any (s : ByteArray) (w : World) (hs : s.size ≤ 40000) : Calls Tryz.prog 85 #[.string s] w fun e w' => e = .returned (firstV s.data.toList) ∧ Below w.heap.size w w' := by
  obtain ⟨n, hn⟩ : ∃ n, n = nameLen s.data.toList := ⟨_, rfl⟩
  obtain ⟨d, hd⟩ : ∃ d, d = runOf digit s.data.toList := ⟨_, rfl⟩
  obtain ⟨g, hg⟩ : ∃ g, g = signLen s.data.toList := ⟨_, rfl⟩
  have hnl := nameLen_le s.data.toList
  rw [← hn] at hnl
  have hnl' : n ≤ s.size := by simpa using hnl
  obtain ⟨wd, hwd⟩ : ∃ b, b = isWord (s.data.toList.take n) := ⟨_, rfl⟩
  have HN := Lib.hid hn
  have HD := Lib.hid hd
  have HG := Lib.hid hg
  have HW := Lib.hid hwd
  have c1 : ∀ w, Calls Tryz.prog 124 #[.string s] w fun e w' => e = .returned (.int .i64 (n : Nat)) ∧ w = w' := fun w => by rw [hn]; exact nameSize_any s w hs
  have c2 : ∀ w, Calls Tryz.prog 126 #[.string s, .func (.func 127) #[] #[]] w fun e w' => e = .returned (.int .i64 (d : Nat)) ∧ w = w' := fun w => by rw [hd]; exact run_digit s w hs
  have c3 : ∀ w, Calls Tryz.prog 128 #[.string s] w fun e w' => e = .returned (.int .i64 (g : Nat)) ∧ Below w.heap.size w w' := fun w => by rw [hg]; exact signSize_any s w
  have c4 : ∀ w, Calls Tryz.prog 125 #[.string (s.extract 0 n)] w fun e w' => e = .returned (.bool wd) ∧ w = w' := fun w => by
    have := word_any (s.extract 0 n) w
    rw [take_word] at this
    rw [hwd]; exact this
  clear hn hd hg hwd hnl
  go_enter Tryz.func85, Tryz.ntmps85
  go_wp2_with (first
    | (go_at_call 124; refine (c1 _).mono ?_; rintro e w' ⟨rfl, rfl⟩)
    | (go_at_call 125; refine (c4 _).mono ?_; rintro e w' ⟨rfl, rfl⟩)
    | (go_at_call 126; refine (c2 _).mono ?_; rintro e w' ⟨rfl, rfl⟩)
    | (go_at_call 128; refine (c3 _).mono ?_; rintro e w' ⟨rfl, hb⟩))
  all_goals go_ret2
  all_goals (refine ⟨ret_tup ?_, (by first | exact Below.refl _ _ | assumption)⟩)
  all_goals
    unfold firstV
    first
    | (rw [first_name (by rw [← HN.out]; omega), ← HN.out, ← HW.out, ‹wd = true›]; rfl)
    | (rw [first_name (by rw [← HN.out]; omega), ← HN.out, ← HW.out, ‹wd = false›]; rfl)
    | (rw [first_digit (by rw [← HN.out]; omega) (by rw [← HD.out]; omega), ← HD.out]; rfl)
    | (rw [first_sign (by rw [← HN.out]; omega) (by rw [← HD.out]; omega) (by rw [← HG.out]; omega), ← HG.out]; rfl)
    | (rw [first_no (by rw [← HN.out]; omega) (by rw [← HD.out]; omega) (by rw [← HG.out]; omega)]; rfl)

end Go.Proofs.YtadkimnpeachpaaGreatDoor
