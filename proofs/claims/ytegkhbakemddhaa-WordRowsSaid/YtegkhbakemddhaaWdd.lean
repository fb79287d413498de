/- Layer 9: the walks of the laws on numbers. -/
import Derived.Test.YtegkhbakemddhaaWdc
import Derived.IntWalk
set_option linter.unusedVariables false
set_option maxRecDepth 100000
namespace Go.Proofs.Ytegkhbakemddhaa
open Go.RowKit

theorem wr_l (a b : Int) : wrap64 (wrap64 a + b) = wrap64 (a + b) := by unfold wrap64; omega
theorem wr_r (a b : Int) : wrap64 (a + wrap64 b) = wrap64 (a + b) := by unfold wrap64; omega
theorem wr_eq {a b : Int} (k : Int) (h : a = b + k * 18446744073709551616) : wrap64 a = wrap64 b := by subst h; unfold wrap64; omega
theorem wr_is (a : Int) : ∃ k : Int, wrap64 a = a + k * 18446744073709551616 := ⟨-((a + 9223372036854775808) / 18446744073709551616), by unfold wrap64; omega⟩
theorem wr_ml (a b : Int) : wrap64 (wrap64 a * b) = wrap64 (a * b) := by
  obtain ⟨k, hk⟩ := wr_is a
  exact wr_eq (k * b) (by rw [hk, Int.add_mul]; congr 1; rw [Int.mul_assoc, Int.mul_assoc, Int.mul_comm 18446744073709551616 b])
theorem wr_mr (a b : Int) : wrap64 (a * wrap64 b) = wrap64 (a * b) := by
  rw [Int.mul_comm, wr_ml, Int.mul_comm]
theorem wr_in {a : Int} (h : (Lit.int .i64 a).wf = true) : wrap64 a = a := by
  have hmin : IntKind.i64.min = -9223372036854775808 := rfl
  have hmax : IntKind.i64.max = 9223372036854775807 := rfl
  simp only [Lit.wf, Bool.and_eq_true, decide_eq_true_eq] at h
  unfold wrap64; omega

set_option maxHeartbeats 1000000 in
theorem algebra_zero (w : World) (a : Int) (s p d n x y u : Int)
    (H1 : Hid (BinIs 1 a 0 s 0)) (H2 : Hid (BinIs 1 0 a s 0)) (H3 : Hid (BinIs 3 a 0 p 0)) (H4 : Hid (BinIs 3 0 a p 0)) (H5 : Hid (BinIs 2 a 0 d 0)) (H6 : Hid (BinIs 1 d 0 a 0))
    (H7 : Hid (UnIs 1 a n)) (H8 : Hid (BinIs 1 n a 0 0))
    (H9 : Hid (BinIs 4 a 0 0 1)) (H10 : Hid (BinIs 5 a 0 0 1)) :
    Calls Try.prog 5 #[.int .i64 a, .int .i64 0] w fun e w' => e = .returned (.bool true) ∧ w = w' := by
  go_enter Try.func5, Try.ntmps5
  go_wp2_with (first
    | (go_at_call 8; refine (alive_any _).mono ?_; rintro e w' ⟨rfl, rfl⟩)
    | (go_at_call 9; with_reducible refine (H1.out _).mono ?_; rintro e w' ⟨rfl, rfl⟩)
    | (go_at_call 9; with_reducible refine (H2.out _).mono ?_; rintro e w' ⟨rfl, rfl⟩)
    | (go_at_call 9; with_reducible refine (H3.out _).mono ?_; rintro e w' ⟨rfl, rfl⟩)
    | (go_at_call 9; with_reducible refine (H4.out _).mono ?_; rintro e w' ⟨rfl, rfl⟩)
    | (go_at_call 9; with_reducible refine (H5.out _).mono ?_; rintro e w' ⟨rfl, rfl⟩)
    | (go_at_call 9; with_reducible refine (H6.out _).mono ?_; rintro e w' ⟨rfl, rfl⟩)
    | (go_at_call 9; with_reducible refine (H8.out _).mono ?_; rintro e w' ⟨rfl, rfl⟩)
    | (go_at_call 9; with_reducible refine (H9.out _).mono ?_; rintro e w' ⟨rfl, rfl⟩)
    | (go_at_call 9; with_reducible refine (H10.out _).mono ?_; rintro e w' ⟨rfl, rfl⟩)
    | (go_at_call 11; with_reducible refine (H7.out _).mono ?_; rintro e w' ⟨rfl, rfl⟩))
  go_ret
  exact ⟨rfl, rfl⟩

set_option maxHeartbeats 1000000 in
theorem algebra_some (w : World) (a b : Int) (hb : (b == 0) = false) (s p d n x y u : Int)
    (H1 : Hid (BinIs 1 a b s 0)) (H2 : Hid (BinIs 1 b a s 0)) (H3 : Hid (BinIs 3 a b p 0)) (H4 : Hid (BinIs 3 b a p 0)) (H5 : Hid (BinIs 2 a b d 0)) (H6 : Hid (BinIs 1 d b a 0))
    (H7 : Hid (UnIs 1 a n)) (H8 : Hid (BinIs 1 n a 0 0))
    (H9 : Hid (BinIs 4 a b x 0)) (H10 : Hid (BinIs 5 a b y 0)) (H11 : Hid (BinIs 3 x b u 0)) (H12 : Hid (BinIs 1 u y a 0)) :
    Calls Try.prog 5 #[.int .i64 a, .int .i64 b] w fun e w' => e = .returned (.bool true) ∧ w = w' := by
  go_enter Try.func5, Try.ntmps5
  go_wp2_with (first
    | (go_at_call 8; refine (alive_any _).mono ?_; rintro e w' ⟨rfl, rfl⟩)
    | (go_at_call 9; with_reducible refine (H1.out _).mono ?_; rintro e w' ⟨rfl, rfl⟩)
    | (go_at_call 9; with_reducible refine (H2.out _).mono ?_; rintro e w' ⟨rfl, rfl⟩)
    | (go_at_call 9; with_reducible refine (H3.out _).mono ?_; rintro e w' ⟨rfl, rfl⟩)
    | (go_at_call 9; with_reducible refine (H4.out _).mono ?_; rintro e w' ⟨rfl, rfl⟩)
    | (go_at_call 9; with_reducible refine (H5.out _).mono ?_; rintro e w' ⟨rfl, rfl⟩)
    | (go_at_call 9; with_reducible refine (H6.out _).mono ?_; rintro e w' ⟨rfl, rfl⟩)
    | (go_at_call 9; with_reducible refine (H8.out _).mono ?_; rintro e w' ⟨rfl, rfl⟩)
    | (go_at_call 9; with_reducible refine (H9.out _).mono ?_; rintro e w' ⟨rfl, rfl⟩)
    | (go_at_call 9; with_reducible refine (H10.out _).mono ?_; rintro e w' ⟨rfl, rfl⟩)
    | (go_at_call 9; with_reducible refine (H11.out _).mono ?_; rintro e w' ⟨rfl, rfl⟩)
    | (go_at_call 9; with_reducible refine (H12.out _).mono ?_; rintro e w' ⟨rfl, rfl⟩)
    | (go_at_call 11; with_reducible refine (H7.out _).mono ?_; rintro e w' ⟨rfl, rfl⟩))
  go_ret
  exact ⟨rfl, rfl⟩

theorem algebra_walk (w : World) (a b : Int) (ha : (Lit.int .i64 a).wf = true) :
    Calls Try.prog 5 #[.int .i64 a, .int .i64 b] w fun e w' => e = .returned (.bool true) ∧ w = w' := by
  have hd : bw 1 (wrap64 (a - b)) b = a := by
    show wrap64 (wrap64 (a - b) + b) = a
    rw [wr_l, Int.sub_add_cancel, wr_in ha]
  have hn : bw 1 (wrap64 (-a)) a = 0 := by
    show wrap64 (wrap64 (-a) + a) = 0
    rw [wr_l, Int.add_left_neg]; decide +kernel
  by_cases hb : b = 0
  · subst hb
    exact algebra_zero w a (bw 1 a 0) (bw 3 a 0) (wrap64 (a - 0)) (wrap64 (-a)) 0 0 0 (Lib.hid (binIs 1 a 0 rfl rfl)) (Lib.hid (binIs 1 0 a (by show wrap64 (0 + a) = wrap64 (a + 0); rw [Int.add_comm]) rfl))
      (Lib.hid (binIs 3 a 0 rfl rfl)) (Lib.hid (binIs 3 0 a (by show wrap64 (0 * a) = wrap64 (a * 0); rw [Int.mul_comm]) rfl)) (Lib.hid (binIs 2 a 0 rfl rfl)) (Lib.hid (binIs 1 _ 0 hd rfl))
      (Lib.hid (unIs 1 a rfl rfl)) (Lib.hid (binIs 1 _ a hn rfl)) (Lib.hid (binIs 4 a 0 rfl rfl)) (Lib.hid (binIs 5 a 0 rfl rfl))
  · have e4 : be 4 b = 0 := by simp [be, hb]
    have e5 : be 5 b = 0 := by simp [be, hb]
    have x4 : bw 4 a b = wrap64 (a.tdiv b) := if_neg hb
    have x5 : bw 5 a b = a.tmod b := if_neg hb
    exact algebra_some w a b (by simpa using hb) (bw 1 a b) (bw 3 a b) (wrap64 (a - b)) (wrap64 (-a)) (wrap64 (a.tdiv b)) (a.tmod b) (bw 3 (wrap64 (a.tdiv b)) b)
      (Lib.hid (binIs 1 a b rfl rfl)) (Lib.hid (binIs 1 b a (by show wrap64 (b + a) = wrap64 (a + b); rw [Int.add_comm]) rfl))
      (Lib.hid (binIs 3 a b rfl rfl)) (Lib.hid (binIs 3 b a (by show wrap64 (b * a) = wrap64 (a * b); rw [Int.mul_comm]) rfl)) (Lib.hid (binIs 2 a b rfl rfl)) (Lib.hid (binIs 1 _ b hd rfl))
      (Lib.hid (unIs 1 a rfl rfl)) (Lib.hid (binIs 1 _ a hn rfl)) (Lib.hid (binIs 4 a b x4 e4)) (Lib.hid (binIs 5 a b x5 e5)) (Lib.hid (binIs 3 _ b rfl rfl))
      (Lib.hid (binIs 1 _ _ (by
        show wrap64 (wrap64 (wrap64 (a.tdiv b) * b) + a.tmod b) = a
        rw [wr_l, ← wr_l, wr_ml, wr_l, Int.tdiv_mul_add_tmod, wr_in ha]) rfl))

end Go.Proofs.Ytegkhbakemddhaa
