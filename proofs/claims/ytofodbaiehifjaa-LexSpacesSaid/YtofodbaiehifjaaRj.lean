/- The walks of SameTokens. -/
import Derived.Test.YtofodbaiehifjaaRe
import Derived.Deep.QuietTactic
import Derived.BigQuiet
set_option linter.unusedVariables false
namespace Go.Proofs.Ytofodbaiehifjaa
open Go.RowKit

/-- a world that has drawn some more -/
def Drawn (w w' : World) : Prop := ∃ n, w' = w.drewN n
theorem Drawn.refl (w : World) : Drawn w w := ⟨0, rfl⟩
theorem Drawn.drew {w w' : World} (h : Drawn w w') : Drawn w w'.drew := by
  obtain ⟨n, rfl⟩ := h
  exact ⟨n + 1, rfl⟩
theorem Drawn.cell {w w' : World} (h : Drawn w w') (p : Addr) : w'.cell? p = w.cell? p := by
  obtain ⟨n, rfl⟩ := h; rfl
theorem Drawn.heap {w w' : World} (h : Drawn w w') : w'.heap = w.heap := by
  obtain ⟨n, rfl⟩ := h; rfl
theorem Drawn.below {w w' : World} {B : Nat} (h : Drawn w w') : Below B w w' := by
  obtain ⟨n, rfl⟩ := h
  exact ⟨rfl, rfl, rfl, Nat.le_refl _, fun _ _ => rfl⟩

@[go_sem] theorem eq_tok (a c x z : Int) (b y : ByteArray) (w : World) : (Op.equalIn 10000 31 (.agg #[.int .i64 a, .string b, .int .i64 c]) (.agg #[.int .i64 x, .string y, .int .i64 z])).run Try.prog w = .ok (a == x && b.toList == y.toList && c == z) w := by
  have u3 := Try.underlying3
  have a3 := Try.isAgg3
  have z3 := Try.sizeOf3
  have u9 := Try.underlying9
  have a9 := Try.isAgg9
  have z9 := Try.sizeOf9
  rw [show (10000 : Nat) = 9999 + 1 from rfl, Op.equalIn]
  simp only [Sem.run_bind, run_underlying Try.underlying31, Result.andThen_ok]
  have hs : Try.prog.stoodInHeld 31 = false := by kernel_rfl
  have hp : (Sem.run Try.prog program w) = .ok Try.prog w := rfl
  simp only [hp, Result.andThen_ok, hs, Bool.false_eq_true, if_false, Sem.run_bind, List.forIn_toArray, List.forIn_cons, List.forIn_nil]
  go_simp
  by_cases h1 : a = x <;> by_cases h2 : b.toList = y.toList <;> by_cases h3 : c = z <;> simp [h1, h2, h3]

set_option maxHeartbeats 400000 in
theorem sametoks_yes (w : World) (B m c d : Nat) (A D : Option Addr) (l : List Tok) (hA : Toks w B A l) (hD : Toks w B D l) (hm : l.length = m) (hm2 : m ≤ 1000000) :
    Calls Try.prog 12 #[.slice A m c, .slice D m d] w fun e w' => e = .returned (.bool true) ∧ Drawn w w' := by
  have HM := Lib.hid hm
  clear hm
  go_enter Try.func12, Try.ntmps12
  go_wp2
  go_loopw [5] (fun i wr => ∃ k : Nat, k ≤ m ∧ i = .int .i64 k ∧ Drawn w wr) (fun i _ => m - (intOf i).toNat)
  case atStart => exact ⟨0, Nat.zero_le _, rfl, Drawn.refl w⟩
  case round =>
    obtain ⟨k, hk, rfl, hq⟩ := hrel
    by_cases hlt : k < m
    · have hkl : k < l.length := by rw [HM.out]; exact hlt
      obtain ⟨b, rfl, _, hc, hd, he⟩ := hA k hkl
      obtain ⟨b', rfl, _, hc', hd', he'⟩ := hD k hkl
      obtain ⟨x, hx⟩ : ∃ x : Int, x = (l[k].kind : Nat) := ⟨_, rfl⟩
      obtain ⟨y, hy⟩ : ∃ y, y = strOf l[k].text := ⟨_, rfl⟩
      obtain ⟨z, hz⟩ : ∃ z : Int, z = (l[k].pl : Nat) := ⟨_, rfl⟩
      rw [← hx] at hc hc'
      rw [← hy] at hd hd'
      rw [← hz] at he he'
      have hc1 := (hq.cell _).trans hc
      have hc2 := (hq.cell _).trans hc'
      have hd1 := (hq.cell _).trans hd
      have hd2 := (hq.cell _).trans hd'
      have he1 := (hq.cell _).trans he
      have he2 := (hq.cell _).trans he'
      clear hc hc' hd hd' he he' hx hy hz hkl
      have e1 : (x == x && y.toList == y.toList && z == z) = true := by simp
      go_wp2
      go_region
      all_goals
        go_wp2
        go_roundw
        case rel => exact ⟨k + 1, by omega, by go_num, hq.drew⟩
        case measure => simp [intOf]; omega
    · go_wp2
      go_ret
      exact ⟨rfl, hq⟩

end Go.Proofs.Ytofodbaiehifjaa
