/- The walk of the document's Most. -/
import Derived.Test.YtogmiofmhmbhbaaNg
namespace Go.Proofs.Ytogmiofmhmbhbaa
open Go.RowKit

/-- whether a is at most b, by a table -/
def mostF (n : Nat) (f : Tab) (a b : Int) : Bool := isLev n a && isLev n b && f a.toNat b.toNat

set_option maxRecDepth 100000 in
set_option maxHeartbeats 2000000 in
theorem rmost_any (w : World) (n : Nat) (v : Value) (f : Tab) (hM : MatAt w w.heap.size n v f) (a b : Int) :
    Calls Try.prog 16 #[.agg #[v], .int .i64 a, .int .i64 b] w (fun e w' => e = .returned (.bool (mostF n f a b)) ∧ Below w.heap.size w w') := by
  obtain ⟨go, co, G, C, rfl, hgo, hM⟩ := hM
  obtain ⟨B, hB⟩ : ∃ B, B = w.heap.size := ⟨_, rfl⟩
  obtain ⟨w2, hw2⟩ : ∃ w2, w2 = (w.alloc (.cells #[.slice (some ⟨go, 0, none⟩) n co] 31)).alloc (.cells #[.int .i64 a, .int .i64 b] 3) := ⟨_, rfl⟩
  have hs2 : w2.heap.size = B + 2 := by rw [hw2, hB]; simp
  have hb2 : Below B w w2 := by rw [hw2, hB]; exact ((Below.refl _ _).alloc (Nat.le_refl _) _).alloc (by simp) _
  have q0 : w2.cell? ⟨B, 0, none⟩ = some (.slice (some ⟨go, 0, none⟩) n co) := by
    rw [hw2, (((Below.refl (B + 1) _).alloc (by simp; omega) _).cell (p := ⟨B, 0, none⟩) (by simp)), hB, cell_of_row _ _ 0 _ _ (0, 0) (heap_alloc_new w _)]; rfl
  have hI2 : IntsIn w2 w2.heap.size (some ⟨B + 1, 0, none⟩) 0 [a, b] := by
    have hh := heap_alloc_new (w.alloc (.cells #[.slice (some ⟨go, 0, none⟩) n co] 31)) (.cells #[.int .i64 a, .int .i64 b] 3)
    rw [← hw2, show (w.alloc (.cells #[.slice (some ⟨go, 0, none⟩) n co] 31)).heap.size = B + 1 by simp [hB]] at hh
    intro k hk
    refine ⟨B + 1, rfl, by omega, ?_⟩
    rw [cell_of_row w2 (B + 1) (0 + k) _ _ (0, 0) hh]
    have hk2 : k < 2 := hk
    rcases Nat.lt_or_ge k 1 with h | h
    · obtain rfl : k = 0 := by omega
      rfl
    · obtain rfl : k = 1 := by omega
      rfl
  have HLV := Lib.hid (levels_at w2 n go co 2 2 0 _ [a, b] hI2 rfl (by omega))
  have HM : Hid (∀ i, i < n → G i < B ∧ w2.cell? ⟨go, i, none⟩ = some (.slice (some ⟨G i, 0, none⟩) n (C i)) ∧ ∀ j, j < n → w2.cell? ⟨G i, j, none⟩ = some (.bool (f i j))) := Lib.hid (fun i hi => by
    obtain ⟨m1, m2, m3⟩ := hM i hi
    exact ⟨by rw [hB]; exact m1, (hb2.cell (p := ⟨go, i, none⟩) (by rw [hB]; exact hgo)).trans m2, fun j hj => (hb2.cell (p := ⟨G i, j, none⟩) (by rw [hB]; exact m1)).trans (m3 j hj)⟩)
  rw [← hB] at hgo
  have HB := Lib.hid hB
  have HW2 := Lib.hid hw2
  clear hM hB hw2 hI2
  by_cases hyes : isLev n a = true ∧ isLev n b = true
  · have ha : 0 ≤ a ∧ a < n := by have := hyes.1; unfold isLev at this; simpa using this
    have hb : 0 ≤ b ∧ b < n := by have := hyes.2; unfold isLev at this; simpa using this
    have HR : Hid (mostF n f a b = f a.toNat b.toNat) := Lib.hid (by unfold mostF; rw [hyes.1, hyes.2]; rfl)
    have HL : Hid ((levL n [a, b]).length = 2) := Lib.hid (by unfold levL; simp [List.filter, hyes.1, hyes.2])
    obtain ⟨x, rfl⟩ := Int.eq_ofNat_of_zero_le ha.1
    obtain ⟨y, rfl⟩ := Int.eq_ofNat_of_zero_le hb.1
    have hx : x < n := by omega
    have hy : y < n := by omega
    clear hyes ha hb
    rw [HR.out]
    simp only [Int.toNat_natCast]
    obtain ⟨fv, hfv⟩ : ∃ fv, fv = f x y := ⟨_, rfl⟩
    rw [← hfv]
    have HF := Lib.hid hfv
    clear hfv HR
    go_enter Try.func16, Try.ntmps16
    go_wp2_with fail
    rw [← HW2.out, ← HB.out]
    refine HLV.out.mono ?_
    rintro e w3 ⟨A3, c3, rfl, _, hb3⟩
    rw [HL.out]
    have q1 := (hb3.cell (p := ⟨B, 0, none⟩) (by simp; omega)).trans q0
    have q2 := (hb3.cell (p := ⟨go, x, none⟩) (by simp; omega)).trans (HM.out x hx).2.1
    have q3 := (hb3.cell (p := ⟨G x, y, none⟩) (by have := (HM.out x hx).1; simp; omega)).trans ((HM.out x hx).2.2 y hy)
    rw [← HF.out] at q3
    have hb13 : Below B w w3 := hb2.trans (hb3.mono (by omega))
    clear hb3 q0
    go_wp2
    go_ret
    exact ⟨rfl, by rw [← HB.out]; exact hb13⟩
  · have HR : Hid (mostF n f a b = false) := Lib.hid (by unfold mostF; rcases Bool.eq_false_or_eq_true (isLev n a) with h1 | h1 <;> rcases Bool.eq_false_or_eq_true (isLev n b) with h2 | h2 <;> simp [h1, h2] at hyes ⊢)
    obtain ⟨k, hk⟩ : ∃ k, k = (levL n [a, b]).length := ⟨_, rfl⟩
    have hk2 : k < 2 := by
      rw [hk]; unfold levL
      rcases Bool.eq_false_or_eq_true (isLev n a) with h1 | h1 <;> rcases Bool.eq_false_or_eq_true (isLev n b) with h2 | h2 <;> simp [List.filter, h1, h2] at hyes ⊢
    have HK := Lib.hid hk
    have he : ((k : Int) == 2) = false := by simp; omega
    clear hyes hk
    rw [HR.out]
    go_enter Try.func16, Try.ntmps16
    go_wp2_with fail
    rw [← HW2.out, ← HB.out]
    refine HLV.out.mono ?_
    rintro e w3 ⟨A3, c3, rfl, _, hb3⟩
    rw [← HK.out]
    have hb13 : Below B w w3 := hb2.trans (hb3.mono (by omega))
    clear hb3 q0
    go_wp2
    go_ret
    exact ⟨rfl, by rw [← HB.out]; exact hb13⟩

end Go.Proofs.Ytogmiofmhmbhbaa
