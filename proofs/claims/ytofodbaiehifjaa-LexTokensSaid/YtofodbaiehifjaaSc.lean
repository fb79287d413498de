/- The walk of LexTokens. -/
import Derived.Test.YtofodbaiehifjaaSb
set_option linter.unusedVariables false
namespace Go.Proofs.Ytofodbaiehifjaa
open Go.RowKit

theorem tokens_walk (w : World) (s : ByteArray) : Calls Try.prog 3 #[.string s] w (TruePost w) := by
  have hal := Lib.hid (alive_any w)
  by_cases hs : s.size ≤ 40000
  · cases hT : toks s.data.toList with
    | ok l =>
      have c1 := Lib.hid (fun w1 => tok_ok hs hT (w := w) w1)
      have c2 := Lib.hid (fun w1 => rtok_ok hs hT (w := w) w1)
      clear hT
      go_enter Try.func3, Try.ntmps3
      go_wp2_with fail
      refine (hal.out w (Below.refl _ _)).mono ?_
      rintro e w1 ⟨rfl, hb1⟩
      go_wp2_with fail
      refine (c1.out _ hb1).mono ?_
      rintro e w2 ⟨A, c, rfl, hT1, hc1, hc2, hl4, _, hb2⟩
      have HT1 := Lib.hid hT1
      clear hT1
      go_wp2_with fail
      refine (c2.out _ hb2).mono ?_
      rintro e w3 ⟨D, d, rfl, hT2, hd1, hd2, _, hb23, hb3⟩
      have HS := Lib.hid (sametoks_at (c := c) (d := d) (HT1.out.below hb23) hT2 hl4)
      clear hT2 HT1 hb23
      go_wp2_with fail
      refine HS.out.mono ?_
      rintro e w4 ⟨rfl, hd⟩
      have hb4 := hb3.trans hd.below
      go_wp2
      go_ret
      exact ⟨rfl, hb4⟩
    | err p c =>
      have c1 := Lib.hid (fun w1 => tok_err hs hT (w := w) w1)
      have c2 := Lib.hid (fun w1 => rtok_err hs hT (w := w) w1)
      clear hT
      go_enter Try.func3, Try.ntmps3
      go_wp2_with fail
      refine (hal.out w (Below.refl _ _)).mono ?_
      rintro e w1 ⟨rfl, hb1⟩
      go_wp2_with fail
      refine (c1.out _ hb1).mono ?_
      rintro e w2 ⟨rfl, _, hb2⟩
      go_wp2_with fail
      refine (c2.out _ hb2).mono ?_
      rintro e w3 ⟨rfl, _, hb3⟩
      go_wp2_with fail
      refine (sametoks_at (Toks.nil _ 0 _) (Toks.nil _ 0 _) (by simp)).mono ?_
      rintro e w4 ⟨rfl, hd⟩
      have hb4 := hb3.trans hd.below
      go_wp2
      go_ret
      exact ⟨rfl, hb4⟩
  · go_enter Try.func3, Try.ntmps3
    go_wp2_with fail
    refine (hal.out w (Below.refl _ _)).mono ?_
    rintro e w1 ⟨rfl, hb1⟩
    go_wp2
    go_ret
    exact ⟨rfl, hb1⟩

end Go.Proofs.Ytofodbaiehifjaa
