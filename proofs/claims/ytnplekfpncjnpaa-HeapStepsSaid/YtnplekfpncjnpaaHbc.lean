/- The document's own memories: SameWords, SameObjects of the same lists. -/
import Derived.Test.YtnplekfpncjnpaaHbb
import Derived.Test.YtnplekfpncjnpaaHam
import Derived.Deep.QuietTactic
set_option linter.unusedVariables false
set_option linter.unusedSimpArgs false
namespace Go.Proofs.Ytnplekfpncjnpaa
open Go.RowKit

theorem eqO (a b c d x y z u : Int) (w : World) : (binOp .eql 45 (.agg #[.int .i64 a, .int .i64 b, .int .i64 c, .int .i64 d]) (.agg #[.int .i64 x, .int .i64 y, .int .i64 z, .int .i64 u])).run Try.prog w = .ok (.bool (a == x && b == y && c == z && d == u)) w := by
  have u3 := Try.underlying3
  have a3 := Try.isAgg3
  have z3 := Try.sizeOf3
  rw [run_eql_struct, show (10000 : Nat) = 9999 + 1 from rfl, Op.equalIn]
  simp only [Sem.run_bind, run_underlying Try.underlying45, Result.andThen_ok]
  have hs : Try.prog.stoodInHeld 45 = false := by kernel_rfl
  have hp : (Sem.run Try.prog program w) = .ok Try.prog w := rfl
  simp only [hp, Result.andThen_ok, hs, Bool.false_eq_true, if_false, Sem.run_bind, List.forIn_toArray, List.forIn_cons, List.forIn_nil]
  go_simp
  by_cases h1 : a = x <;> by_cases h2 : b = y <;> by_cases h3 : c = z <;> by_cases h4 : d = u <;> simp [h1, h2, h3, h4]
theorem neqO (a b c d x y z u : Int) (w : World) : (binOp .neq 45 (.agg #[.int .i64 a, .int .i64 b, .int .i64 c, .int .i64 d]) (.agg #[.int .i64 x, .int .i64 y, .int .i64 z, .int .i64 u])).run Try.prog w = .ok (.bool !(a == x && b == y && c == z && d == u)) w := by
  have h := eqO a b c d x y z u w
  rw [run_eql_struct] at h
  rw [run_neq_struct]
  cases hr : (Op.equalIn 10000 45 (.agg #[.int .i64 a, .int .i64 b, .int .i64 c, .int .i64 d]) (.agg #[.int .i64 x, .int .i64 y, .int .i64 z, .int .i64 u])).run Try.prog w with
  | ok b w' => rw [hr] at h; simp [Result.andThen] at h ⊢; obtain ⟨rfl, rfl⟩ := h; exact ⟨rfl, rfl⟩
  | _ => rw [hr] at h; simp [Result.andThen] at h


set_option maxRecDepth 100000 in
set_option maxHeartbeats 1000000 in
theorem samew_any {w : World} {S T : Nat → Prop} {xs : List Wd} {u v : Value} (X : Lies KWd w S xs u) (Y : Lies KWd w T xs v) (hS : ∀ b, S b → b < w.heap.size) (hT : ∀ b, T b → b < w.heap.size) (hl : xs.length ≤ 1000) :
    Calls Try.prog 18 #[u, v] w fun e w' => e = .returned (.bool true) ∧ Below w.heap.size w w' := by
  obtain ⟨A, c, rfl, hc, -⟩ := X.form
  obtain ⟨B, d, rfl, hd, -⟩ := Y.form
  have HX := Lib.hid X
  have HY := Lib.hid Y
  have HS := Lib.hid hS
  have HT := Lib.hid hT
  obtain ⟨n, hn⟩ : ∃ n, n = xs.length := ⟨_, rfl⟩
  rw [← hn] at hc hd hl ⊢
  have HN := Lib.hid hn
  clear X Y hS hT hn
  go_enter Try.func18, Try.ntmps18
  go_wp2
  go_loopw [5] (fun x wr => ∃ j : Nat, j ≤ n ∧ x = .int .i64 (j : Nat) ∧ Hid (Below w.heap.size w wr)) (fun x _ => n - (intOf x).toNat)
  case atStart => exact ⟨0, Nat.zero_le _, rfl, Lib.hid (Below.refl _ _)⟩
  case round =>
    obtain ⟨wo, rfl⟩ : ∃ wo : World, wo = wr := ⟨_, rfl⟩
    obtain ⟨j, hj, rfl, HB⟩ := hrel
    by_cases hlt : j < n
    · have hjl : j < xs.length := by rw [← HN.out]; exact hlt
      obtain ⟨ga, offa, rfl, hga, x0, x1⟩ := lies_word HX.out hjl
      obtain ⟨gb, offb, rfl, hgb, y0, y1⟩ := lies_word HY.out hjl
      have a0 := (HB.out.cell (p := ⟨ga, offa + j * 2, none⟩) (HS.out ga hga)).trans x0
      have b0 := (HB.out.cell (p := ⟨gb, offb + j * 2, none⟩) (HT.out gb hgb)).trans y0
      have a1 := (HB.out.cell (p := ⟨ga, offa + j * 2 + 1, none⟩) (HS.out ga hga)).trans x1
      have b1 := (HB.out.cell (p := ⟨gb, offb + j * 2 + 1, none⟩) (HT.out gb hgb)).trans y1
      obtain ⟨v0, hv0⟩ : ∃ v : Int, v = xs[j].v := ⟨_, rfl⟩
      obtain ⟨v1, hv1⟩ : ∃ v : Int, v = xs[j].s := ⟨_, rfl⟩
      rw [← hv0, ← hv1] at *
      have hne : ∀ w : World, (binOp .neq 40 (.agg #[.int .i64 v0, .int .i64 v1]) (.agg #[.int .i64 v0, .int .i64 v1])).run Try.prog w = .ok (.bool false) w := fun w => by rw [neqW]; simp
      clear x0 x1 y0 y1 hv0 hv1
      go_wp2
      go_quiet (fail)
      go_wp2
      go_roundw
      case rel => exact ⟨j + 1, by omega, by go_num, Lib.hid ⟨HB.out.os, HB.out.tape, HB.out.output, HB.out.size, HB.out.block⟩⟩
      case measure => simp [intOf]; omega
    · obtain rfl : j = n := by omega
      go_wp2
      go_ret
      exact ⟨rfl, HB.out⟩


set_option maxRecDepth 100000 in
set_option maxHeartbeats 1000000 in
theorem sameo_any {w : World} {S T : Nat → Prop} {xs : List Ob} {u v : Value} (X : Lies KOb w S xs u) (Y : Lies KOb w T xs v) (hS : ∀ b, S b → b < w.heap.size) (hT : ∀ b, T b → b < w.heap.size) (hl : xs.length ≤ 1000) :
    Calls Try.prog 20 #[u, v] w fun e w' => e = .returned (.bool true) ∧ Below w.heap.size w w' := by
  obtain ⟨A, c, rfl, hc, -⟩ := X.form
  obtain ⟨B, d, rfl, hd, -⟩ := Y.form
  have HX := Lib.hid X
  have HY := Lib.hid Y
  have HS := Lib.hid hS
  have HT := Lib.hid hT
  obtain ⟨n, hn⟩ : ∃ n, n = xs.length := ⟨_, rfl⟩
  rw [← hn] at hc hd hl ⊢
  have HN := Lib.hid hn
  clear X Y hS hT hn
  go_enter Try.func20, Try.ntmps20
  go_wp2
  go_loopw [5] (fun x wr => ∃ j : Nat, j ≤ n ∧ x = .int .i64 (j : Nat) ∧ Hid (Below w.heap.size w wr)) (fun x _ => n - (intOf x).toNat)
  case atStart => exact ⟨0, Nat.zero_le _, rfl, Lib.hid (Below.refl _ _)⟩
  case round =>
    obtain ⟨wo, rfl⟩ : ∃ wo : World, wo = wr := ⟨_, rfl⟩
    obtain ⟨j, hj, rfl, HB⟩ := hrel
    by_cases hlt : j < n
    · have hjl : j < xs.length := by rw [← HN.out]; exact hlt
      obtain ⟨ga, offa, rfl, hga, x0, x1, x2, x3⟩ := lies_object HX.out hjl
      obtain ⟨gb, offb, rfl, hgb, y0, y1, y2, y3⟩ := lies_object HY.out hjl
      have a0 := (HB.out.cell (p := ⟨ga, offa + j * 4, none⟩) (HS.out ga hga)).trans x0
      have b0 := (HB.out.cell (p := ⟨gb, offb + j * 4, none⟩) (HT.out gb hgb)).trans y0
      have a1 := (HB.out.cell (p := ⟨ga, offa + j * 4 + 1, none⟩) (HS.out ga hga)).trans x1
      have b1 := (HB.out.cell (p := ⟨gb, offb + j * 4 + 1, none⟩) (HT.out gb hgb)).trans y1
      have a2 := (HB.out.cell (p := ⟨ga, offa + j * 4 + 2, none⟩) (HS.out ga hga)).trans x2
      have b2 := (HB.out.cell (p := ⟨gb, offb + j * 4 + 2, none⟩) (HT.out gb hgb)).trans y2
      have a3 := (HB.out.cell (p := ⟨ga, offa + j * 4 + 3, none⟩) (HS.out ga hga)).trans x3
      have b3 := (HB.out.cell (p := ⟨gb, offb + j * 4 + 3, none⟩) (HT.out gb hgb)).trans y3
      obtain ⟨v0, hv0⟩ : ∃ v : Int, v = (xs[j].at_ : Int) := ⟨_, rfl⟩
      obtain ⟨v1, hv1⟩ : ∃ v : Int, v = (xs[j].size : Int) := ⟨_, rfl⟩
      obtain ⟨v2, hv2⟩ : ∃ v : Int, v = xs[j].fn := ⟨_, rfl⟩
      obtain ⟨v3, hv3⟩ : ∃ v : Int, v = xs[j].op := ⟨_, rfl⟩
      rw [← hv0, ← hv1, ← hv2, ← hv3] at *
      have hne : ∀ w : World, (binOp .neq 45 (.agg #[.int .i64 v0, .int .i64 v1, .int .i64 v2, .int .i64 v3]) (.agg #[.int .i64 v0, .int .i64 v1, .int .i64 v2, .int .i64 v3])).run Try.prog w = .ok (.bool false) w := fun w => by rw [neqO]; simp
      clear x0 x1 x2 x3 y0 y1 y2 y3 hv0 hv1 hv2 hv3
      go_wp2
      go_quiet (fail)
      go_wp2
      go_roundw
      case rel => exact ⟨j + 1, by omega, by go_num, Lib.hid ⟨HB.out.os, HB.out.tape, HB.out.output, HB.out.size, HB.out.block⟩⟩
      case measure => simp [intOf]; omega
    · obtain rfl : j = n := by omega
      go_wp2
      go_ret
      exact ⟨rfl, HB.out⟩


end Go.Proofs.Ytnplekfpncjnpaa
