/- sameEdges at the same edges. -/
import Derived.Test.YtogmiofmhmbhbaaOb
import Derived.Test.YtogmiofmhmbhbaaOc
import Derived.Test.YtogmiofmhmbhbaaMf
namespace Go.Proofs.Ytogmiofmhmbhbaa
open Go.RowKit

@[go_sem] theorem eq_edge (a b c d : Int) (w : World) : (Op.equalIn 10000 47 (.agg #[.int .i64 a, .int .i64 b]) (.agg #[.int .i64 c, .int .i64 d])).run Try.prog w = .ok (a == c && b == d) w := by
  have u3 := Try.underlying3
  have a3 := Try.isAgg3
  have z3 := Try.sizeOf3
  rw [show (10000 : Nat) = 9999 + 1 from rfl, Op.equalIn]
  simp only [Sem.run_bind, run_underlying Try.underlying47, Result.andThen_ok]
  simp only [Std.Legacy.Range.forIn_eq_forIn_range', Std.Legacy.Range.size, Nat.sub_zero, Nat.add_sub_cancel, Nat.div_one, List.range'_succ, List.range'_zero, List.forIn_cons, List.forIn_nil]
  go_simp
  by_cases h1 : a = c <;> by_cases h2 : b = d <;> simp [h1, h2]

set_option maxHeartbeats 400000 in
theorem sameedges_yes (w : World) (m c d off : Nat) (A D : Option Addr) (es : List (Int × Int)) (hA : Edges w w.heap.size A es) (hD : EdgesIn w w.heap.size D off es) (hm : es.length = m) (hm2 : m ≤ 1000000) :
    Calls Try.prog 14 #[.slice A m c, .slice D m d] w fun e w' => e = .returned (.bool true) ∧ Drawn w w' := by
  have HM := Lib.hid hm
  clear hm
  go_enter Try.func14, Try.ntmps14
  go_wp2
  go_loopw [5] (fun i wr => ∃ k : Nat, k ≤ m ∧ i = .int .i64 k ∧ Drawn w wr) (fun i _ => m - (intOf i).toNat)
  case atStart => exact ⟨0, Nat.zero_le _, rfl, Drawn.refl w⟩
  case round =>
    obtain ⟨k, hk, rfl, hq⟩ := hrel
    by_cases hlt : k < m
    · obtain ⟨b, rfl, _, hc, hd⟩ := hA k (by rw [HM.out]; exact hlt)
      obtain ⟨b', rfl, _, hc', hd'⟩ := hD k (by rw [HM.out]; exact hlt)
      have hc1 := (hq.cell _).trans hc
      have hc2 := (hq.cell _).trans hc'
      have hd1 := (hq.cell _).trans hd
      have hd2 := (hq.cell _).trans hd'
      obtain ⟨x, hx⟩ : ∃ x, x = (ge es k).1 := ⟨_, rfl⟩
      obtain ⟨y, hy⟩ : ∃ y, y = (ge es k).2 := ⟨_, rfl⟩
      rw [← hx] at hc1 hc2
      rw [← hy] at hd1 hd2
      clear hc hc' hd hd' hx hy
      have e1 : (x == x && y == y) = true := by simp
      go_wp2
      go_region
      all_goals
        go_wp2
        go_roundw
        case rel => exact ⟨k + 1, by omega, by go_num, hq.drew⟩
        case measure => simp [intOf]; omega
    · go_wp2
      go_ret
      exact ⟨rfl, hq⟩

end Go.Proofs.Ytogmiofmhmbhbaa
