/- What all four statements call first: alive answers true. -/
import Derived.Test.YtnplekfpncjnpaaHah
set_option linter.unusedVariables false
set_option linter.unusedSimpArgs false
namespace Go.Proofs.Ytnplekfpncjnpaa
open Go.RowKit

def aH1 : Hp := [⟨[], []⟩, ⟨[noWd, noWd, noWd], [⟨0, 3, 7, 8⟩]⟩]
def aH2 : Hp := [⟨[], []⟩, ⟨[noWd, noWd, noWd, noWd], [⟨0, 3, 7, 8⟩, ⟨3, 1, 7, 9⟩]⟩]
def aH3 : Hp := [⟨[], []⟩, ⟨[noWd, ⟨5, 2⟩, noWd, noWd], [⟨0, 3, 7, 8⟩, ⟨3, 1, 7, 9⟩]⟩]
theorem a1 : makeM (newM 2) 1 3 7 8 = (aH1, 65, true) := by kernel_rfl
theorem a2 : makeM aH1 1 1 7 9 = (aH2, 68, true) := by kernel_rfl
theorem a3 : ofM aH2 67 = (1, ⟨0, 3, 7, 8⟩, true) := by kernel_rfl
theorem a4 : storeM aH2 66 ⟨5, 2⟩ = (aH3, true) := by kernel_rfl
theorem a5 : (ws_ aH3 1).length = 4 := by kernel_rfl
theorem a6 : (os_ aH3 1).length = 2 := by kernel_rfl

set_option maxRecDepth 100000 in
set_option maxHeartbeats 2000000 in
theorem alive_any (w : World) : Calls Try.prog 7 #[] w fun e w' => e = .returned (.bool true) ∧ Below w.heap.size w w' := by
  have HNEW := Lib.hid (new_any w 2 (by unfold In64; omega))
  go_enter Try.func7, Try.ntmps7
  go_wp2_with fail
  refine HNEW.out.mono ?_
  rintro e w1 ⟨h, g, c, A, rfl, X1, hb1⟩
  have HX1 := Lib.hid X1
  have HB1 := Lib.hid hb1
  have HM := make_any X1 hb1.size 1 3 7 8
  rw [a1] at HM
  have HM := Lib.hid HM
  clear X1 hb1 HNEW
  go_wp2_with fail
  refine HM.out.mono ?_
  rintro e w2 ⟨A2, rfl, X2, hb2, -, -⟩
  have HB2 := Lib.hid (HB1.out.trans hb2)
  have HM2 := make_any X2 HB2.out.size 1 1 7 9
  dsimp only at HM2
  rw [a2] at HM2
  have HM2 := Lib.hid HM2
  clear X2 hb2 HX1 HM HB1
  go_wp2_with fail
  refine HM2.out.mono ?_
  rintro e w3 ⟨A3, rfl, X3, hb3, -, -⟩
  dsimp only at X3
  have HB3 := Lib.hid (HB2.out.trans hb3)
  have HX3 := Lib.hid X3
  have HOF := of_any X3 67 (by unfold In64; omega)
  rw [a3] at HOF
  unfold OfV oagg at HOF
  have HOF := Lib.hid HOF
  clear X3 hb3 HB2 HM2
  go_wp2_with fail
  refine HOF.out.mono ?_
  rintro e w4 ⟨rfl, hb4⟩
  dsimp only
  have HX4 := Lib.hid (HX3.out.below hb4)
  have HB4 := Lib.hid (HB3.out.trans (hb4.mono HB3.out.size))
  clear hb4 HX3 HB3 HOF
  go_wp2_with fail
  have HA4 := Lib.hid ((Below.refl w4.heap.size w4).alloc (Nat.le_refl _) (.cells #[.int .i64 0, .int .i64 3, .int .i64 7, .int .i64 8] 45))
  have HX5 := Lib.hid (HX4.out.below HA4.out)
  have HB5 := Lib.hid (HB4.out.trans (HA4.out.mono HB4.out.size))
  have HST := store_any HX5.out HB5.out.size 66 (by unfold In64; omega) ⟨5, 2⟩
  rw [a4] at HST
  unfold wagg at HST
  have HST := Lib.hid HST
  refine HST.out.mono ?_
  rintro e w5 ⟨rfl, X5, hb5, -⟩
  dsimp only at X5
  have HB6 := Lib.hid (HB5.out.trans hb5)
  have HX6 := Lib.hid X5
  have HW := Lib.hid (words_any X5 1)
  clear X5 hb5 HB4 HX4 HA4 HX5 HB5 HST
  go_wp2_with fail
  refine HW.out.mono ?_
  rintro e w6 ⟨v, rfl, hr, hb6⟩
  obtain ⟨B, d, rfl, -⟩ := hr.form
  rw [a5]
  have HB7 := Lib.hid (HB6.out.trans (hb6.mono HB6.out.size))
  have HO := Lib.hid (objects_any (HX6.out.below hb6) 1)
  clear hr hb6 HB6 HX6 HW
  go_wp2_with fail
  refine HO.out.mono ?_
  rintro e w7 ⟨v, rfl, hr, hb7⟩
  obtain ⟨B2, d2, rfl, -⟩ := hr.form
  rw [a6]
  have HB8 := Lib.hid (HB7.out.trans (hb7.mono HB7.out.size))
  clear hr hb7 HB7 HO
  go_wp2
  go_ret
  exact ⟨rfl, HB8.out⟩

end Go.Proofs.Ytnplekfpncjnpaa
