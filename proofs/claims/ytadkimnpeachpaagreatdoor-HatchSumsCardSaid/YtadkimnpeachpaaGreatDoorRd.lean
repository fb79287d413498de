/- The walk of wrong. -/
import Derived.Test.YtadkimnpeachpaaGreatDoorRc
set_option linter.unusedVariables false
namespace Go.Proofs.YtadkimnpeachpaaGreatDoor
open Go.RowKit

theorem size_len (t : ByteArray) : t.size = t.data.toList.length := by simp
theorem head_48 (t : ByteArray) (h : 0 < t.size) : t.data.toList.head? = some 48 ↔ t[0].toNat = 48 := by
  obtain ⟨h0, r, hr⟩ := bytes_cons (s := t) (by intro e; have := size_len t; rw [e, List.length_nil] at this; omega)
  rw [hr, List.head?_cons]
  constructor
  · intro e; rw [Option.some.inj e]; rfl
  · intro e; congr 1; exact UInt8.toNat_inj.1 e
theorem wrong_of2 (t : List UInt8) (n : Nat) : wrongOf 2 t n = if 4096 ≤ n then 12 else if 18 < t.length ∨ (1 < t.length ∧ t.head? = some 48) then 11 else 0 := by
  simp [wrongOf]
theorem wrong_of1 (t : List UInt8) (n : Nat) : wrongOf 1 t n = if 16 < t.length ∨ 4096 ≤ n then 12 else 0 := by
  simp [wrongOf]
theorem wrong_of3 (t : List UInt8) (n : Nat) : wrongOf 3 t n = if 4096 ≤ n then 12 else 0 := by
  simp [wrongOf]
theorem wrong_of4 (t : List UInt8) (n : Nat) : wrongOf 4 t n = if 4096 ≤ n then 12 else 0 := by
  simp [wrongOf]
theorem wrong_of0 (t : List UInt8) (n : Nat) : wrongOf 0 t n = 10 := rfl

set_option maxRecDepth 100000 in
set_option maxHeartbeats 1000000 in
theorem wrong_0 (t : ByteArray) (n : Nat) (w : World) (hn : n ≤ 5000) (ht : t.size ≤ 40000) :
    Calls Tryz.prog 86 #[.int .i64 0, .string t, .int .i64 n] w fun e w' => e = .returned (.int .i64 (wrongOf 0 t.data.toList n : Nat)) ∧ w = w' := by
  have HS := Lib.hid (size_len t)
  go_enter Tryz.func86, Tryz.ntmps86
  go_wp2
  all_goals go_ret
  all_goals (refine ⟨ret_int ?_, rfl⟩)
  all_goals rw [wrong_of0]
  all_goals rfl

set_option maxRecDepth 100000 in
set_option maxHeartbeats 1000000 in
theorem wrong_1 (t : ByteArray) (n : Nat) (w : World) (hn : n ≤ 5000) (ht : t.size ≤ 40000) :
    Calls Tryz.prog 86 #[.int .i64 1, .string t, .int .i64 n] w fun e w' => e = .returned (.int .i64 (wrongOf 1 t.data.toList n : Nat)) ∧ w = w' := by
  have HS := Lib.hid (size_len t)
  go_enter Tryz.func86, Tryz.ntmps86
  go_wp2
  all_goals go_ret
  all_goals (refine ⟨ret_int ?_, rfl⟩)
  all_goals rw [wrong_of1]
  all_goals rw [← HS.out]
  all_goals first
    | (rw [if_pos (by omega)]; rfl)
    | (rw [if_neg (by omega)]; rfl)

set_option maxRecDepth 100000 in
set_option maxHeartbeats 1000000 in
theorem wrong_2 (t : ByteArray) (n : Nat) (w : World) (hn : n ≤ 5000) (ht : t.size ≤ 40000) :
    Calls Tryz.prog 86 #[.int .i64 2, .string t, .int .i64 n] w fun e w' => e = .returned (.int .i64 (wrongOf 2 t.data.toList n : Nat)) ∧ w = w' := by
  have HS := Lib.hid (size_len t)
  go_enter Tryz.func86, Tryz.ntmps86
  go_wp2
  all_goals go_ret
  all_goals (refine ⟨ret_int ?_, rfl⟩)
  all_goals rw [wrong_of2]
  all_goals rw [← HS.out]
  all_goals first
    | (rw [if_pos (by omega)]; rfl)
    | (rw [if_neg (by omega), if_pos (Or.inl (by omega))]; rfl)
    | (rw [if_neg (by omega), if_neg (by omega)]; rfl)
    | (have h0 : 0 < t.size := by omega
       have hh := head_48 t h0
       rw [if_neg (by omega)]
       first
       | (rw [if_pos (Or.inr ⟨by omega, hh.2 (by rename_i h; rcases h with h | h <;> (try simp at h) <;> omega)⟩)]; rfl)
       | (rw [if_neg (by rw [hh]; rename_i h; obtain ⟨h, h'⟩ := h; simp at h'; omega)]; rfl))

set_option maxRecDepth 100000 in
set_option maxHeartbeats 1000000 in
theorem wrong_3 (t : ByteArray) (n : Nat) (w : World) (hn : n ≤ 5000) (ht : t.size ≤ 40000) :
    Calls Tryz.prog 86 #[.int .i64 3, .string t, .int .i64 n] w fun e w' => e = .returned (.int .i64 (wrongOf 3 t.data.toList n : Nat)) ∧ w = w' := by
  have HS := Lib.hid (size_len t)
  go_enter Tryz.func86, Tryz.ntmps86
  go_wp2
  all_goals go_ret
  all_goals (refine ⟨ret_int ?_, rfl⟩)
  all_goals rw [wrong_of3]
  all_goals first
    | (rw [if_pos (by omega)]; rfl)
    | (rw [if_neg (by omega)]; rfl)

set_option maxRecDepth 100000 in
set_option maxHeartbeats 1000000 in
theorem wrong_4 (t : ByteArray) (n : Nat) (w : World) (hn : n ≤ 5000) (ht : t.size ≤ 40000) :
    Calls Tryz.prog 86 #[.int .i64 4, .string t, .int .i64 n] w fun e w' => e = .returned (.int .i64 (wrongOf 4 t.data.toList n : Nat)) ∧ w = w' := by
  have HS := Lib.hid (size_len t)
  go_enter Tryz.func86, Tryz.ntmps86
  go_wp2
  all_goals go_ret
  all_goals (refine ⟨ret_int ?_, rfl⟩)
  all_goals rw [wrong_of4]
  all_goals first
    | (rw [if_pos (by omega)]; rfl)
    | (rw [if_neg (by omega)]; rfl)

end Go.Proofs.YtadkimnpeachpaaGreatDoor
