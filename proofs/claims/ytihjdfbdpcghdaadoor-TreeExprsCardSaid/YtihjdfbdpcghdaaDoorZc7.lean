/- Vx -/
import Derived.Test.YtihjdfbdpcghdaaDoorZb9
import Derived.Test.YtihjdfbdpcghdaaDoorZc0
import Derived.Test.YtihjdfbdpcghdaaDoorZc1
import Derived.Test.YtihjdfbdpcghdaaDoorZc2
import Derived.Test.YtihjdfbdpcghdaaDoorZc3
import Derived.IntWalk
set_option linter.unusedVariables false
namespace Go.Proofs.YtihjdfbdpcghdaaDoor
open Go.RowKit
def Tab (B : Nat) (w : World) : Prop := Lib.TabBelow Tryd.prog B w "internal/strconv.uint64pow10" .u64 Lib.pow10Tab
theorem expr_step {w0 : World} {B : Nat} (htab : Tab B w0) (e : Ex) {r : Value} (hr : Reads w0 B e.args r) (hs : e.name.length ≤ 40000) : WritesE w0 B e r := by
  obtain ⟨k, p, n, s, args⟩ := e
  intro w Bc Ba u T d ch hb hB hp hd0 hd9 hc0 hc9
  have hr : Reads w0 B args r := hr
  have hs : s.length ≤ 40000 := hs
  show Calls Tryd.prog 17 #[penV Bc Ba, .agg #[.int .i64 k, .int .i64 p, .int .i64 n, .string (strOf s), r], .int .i64 d, .int .i64 ch] w (PenPost w Bc Ba B u (adv T (penE (.mk k p n s args) d ch)))
  by_cases hd : d ≤ 24
  · by_cases k1 : k = 1
    · subst k1
      by_cases hq : 0 ≤ n ∧ n ≤ 999999999999999999
      · exact expr_1_yes hb hB hp hd0 hd hc0 hr hs htab hq
      · exact expr_1_no hb hB hp hd0 hd hc0 hr hs hq
    by_cases k2 : k = 2
    · subst k2
      by_cases hq : n = 0 ∨ n = 1
      · exact expr_2_yes hb hB hp hd0 hd hc0 hr hs hq
      · exact expr_2_no hb hB hp hd0 hd hc0 hr hs hq
    by_cases k3 : k = 3
    · subst k3; exact expr_3 hb hB hp hd0 hd hc0 hr hs
    by_cases k4 : k = 4
    · subst k4
      by_cases hq : nameB s = true
      · exact expr_4_yes hb hB hp hd0 hd hc0 hr hs hq
      · exact expr_4_no hb hB hp hd0 hd hc0 hr hs hq
    by_cases k5 : k = 5
    · subst k5
      by_cases hq : nameB s = true
      · exact expr_5_yes hb hB hp hd0 hd hc0 hr hs hq
      · exact expr_5_no hb hB hp hd0 hd hc0 hr hs hq
    by_cases k6 : k = 6
    · subst k6; exact expr_6 hb hB hp hd0 hd hc0 hr hs
    by_cases k7 : k = 7
    · subst k7; exact expr_7 hb hB hp hd0 hd hc0 hr hs
    by_cases k8 : k = 8
    · subst k8; exact expr_8 hb hB hp hd0 hd hc0 hr hs
    by_cases k9 : k = 9
    · subst k9
      by_cases hq : s = [45] ∨ s = [33]
      · exact expr_9_yes hb hB hp hd0 hd hc0 hr hs hq
      · exact expr_9_no hb hB hp hd0 hd hc0 hr hs hq
    by_cases k10 : k = 10
    · subst k10
      by_cases hq : s ∈ opsL
      · exact expr_10_yes hb hB hp hd0 hd hc0 hr hs hq
      · exact expr_10_no hb hB hp hd0 hd hc0 hr hs hq
    by_cases k11 : k = 11
    · subst k11
      by_cases hq : nameB s = true
      · exact expr_11_yes hb hB hp hd0 hd hc0 hr hs hq
      · exact expr_11_no hb hB hp hd0 hd hc0 hr hs hq
    by_cases k12 : k = 12
    · subst k12; exact expr_12 hb hB hp hd0 hd hc0 hr hs
    by_cases k13 : k = 13
    · subst k13
      by_cases hq : nameB s = true
      · exact expr_13_yes hb hB hp hd0 hd hc0 hr hs hq
      · exact expr_13_no hb hB hp hd0 hd hc0 hr hs hq
    exact expr_else hb hB hp hd0 hd hc0 hr hs (by omega)
  · exact expr_deep hb hB hp hd0 hd hd9 hc0 hr hs
theorem reads_any {w0 : World} {B : Nat} (htab : Tab B w0) {es : List Ex} {v : Value} (h : IsExs w0 (· < B) es v) : smallEs 40000 es → Reads w0 B es v := by
  induction h with
  | mk es A c f hc hM hA hr ih =>
    intro hsm
    refine ⟨A, c, rfl, hc, hM, fun j hj => ?_⟩
    obtain ⟨b, off, h1, h2, h3, c0, c1, c2, c3, c4⟩ := hA j hj
    obtain ⟨h4, h5, h6⟩ := smallE_args (smallEs_get hsm j hj)
    have hrd := ih j hj h6
    obtain ⟨A5, c5, hf, _, _⟩ := (hr j hj).slice
    have hw := expr_step htab es[j] hrd h4
    rw [hf] at hw c4
    exact ⟨b, off, A5, _, c5, h1, h2, h4, c0, c1, c2, c3, c4, hw⟩
end Go.Proofs.YtihjdfbdpcghdaaDoor
