/- What all three statements call first: alive answers true. -/
import Derived.Test.YtadmacplpmahaaaIad
set_option linter.unusedVariables false
set_option linter.unusedSimpArgs false
namespace Go.Proofs.Ytadmacplpmahaaa
open Go.RowKit

set_option maxRecDepth 100000 in
set_option maxHeartbeats 2000000 in
theorem alive_any (w : World) : Calls Try.prog 6 #[] w fun e w' => e = .returned (.bool true) ∧ Below w.heap.size w w' := by
  have HNEW := Lib.hid (newQ_any w 2 (by unfold In64; omega))
  go_enter Try.func6, Try.ntmps6
  go_wp2_with fail
  refine HNEW.out.mono ?_
  rintro e w1 ⟨h, c, rfl, X1, hb1⟩
  rw [show capM 2 = 2 from by decide] at X1
  have HB1 := Lib.hid hb1
  have HP := put_any X1 5
  unfold PutQ at HP
  rw [show putM 2 [] 5 = ([5], true) from by decide] at HP
  have HP := Lib.hid HP
  clear X1 hb1 HNEW
  go_wp2_with fail
  refine HP.out.mono ?_
  rintro e w2 ⟨rfl, X2, C2⟩
  have HB2 := Lib.hid (HB1.out.trans C2.bel)
  have HP2 := put_any X2 6
  unfold PutQ at HP2
  rw [show putM 2 ([5], true).1 6 = ([5, 6], true) from by decide] at HP2
  have HP2 := Lib.hid HP2
  clear X2 C2 HP HB1
  go_wp2_with fail
  refine HP2.out.mono ?_
  rintro e w3 ⟨rfl, X3, C3⟩
  have HB3 := Lib.hid (HB2.out.trans C3.bel)
  have HP3 := put_any X3 7
  unfold PutQ at HP3
  rw [show putM 2 ([5, 6], true).1 7 = ([5, 6], false) from by decide] at HP3
  have HP3 := Lib.hid HP3
  clear X3 C3 HP2 HB2
  go_wp2_with fail
  refine HP3.out.mono ?_
  rintro e w4 ⟨rfl, X4, C4⟩
  have HB4 := Lib.hid (HB3.out.trans C4.bel)
  have HX4 := Lib.hid X4
  have HL := Lib.hid (len_any X4)
  clear X4 C4 HP3 HB3
  go_wp2_with fail
  refine HL.out.mono ?_
  rintro e w5 ⟨rfl, rfl⟩
  have HR := Lib.hid (room_any HX4.out)
  go_wp2_with fail
  refine HR.out.mono ?_
  rintro e w6 ⟨rfl, m, hm⟩
  have HX6 := HX4.out.drewN m
  have HB6 := HB4.out.trans (Chg.drawn none w.heap.size w4 m).bel
  rw [← hm] at HX6 HB6
  have HB6 := Lib.hid HB6
  have HG := get_any HX6
  unfold GetQ at HG
  rw [show getM ([5, 6], false).1 = ([6], 5, true) from rfl] at HG
  have HG := Lib.hid HG
  clear hm HX6 HL HR HX4 HB4
  go_wp2_with fail
  refine HG.out.mono ?_
  rintro e w7 ⟨rfl, X7, C7⟩
  have HB7 := Lib.hid (HB6.out.trans C7.bel)
  have HA := Lib.hid (all_any X7 HB7.out.size)
  clear X7 C7 HG HB6
  go_wp2_with fail
  refine HA.out.mono ?_
  rintro e w8 ⟨v, rfl, ho, X8, C8⟩
  have HB8 := Lib.hid (HB7.out.trans C8.bel)
  have HO := Lib.hid ho
  clear ho X8 C8 HA HB7
  go_wp2_with fail
  have HS := Lib.hid (same_any (HO.out.alloc (.cells #[.int .i64 6] 3)).lie (lit_lie w8 6))
  have HB9 := Lib.hid (HB8.out.alloc HB8.out.size (.cells #[.int .i64 6] 3))
  refine HS.out.mono ?_
  rintro e w9 ⟨rfl, m', hm'⟩
  have HB10 := HB9.out.trans (Chg.drawn none w.heap.size _ m').bel
  rw [← hm'] at HB10
  have HB10 := Lib.hid HB10
  clear hm' HS
  go_wp2
  go_ret
  exact ⟨rfl, HB10.out⟩

end Go.Proofs.Ytadmacplpmahaaa
