/- What all four statements call first: alive answers true. -/
import Derived.Test.YtpdihmlilbccjaaJle
set_option linter.unusedVariables false
set_option linter.unusedSimpArgs false
namespace Go.Proofs.Ytpdihmlilbccjaa
open Go.RowKit

theorem lit2_lie (w : World) (x y : Int) : LieN (w.alloc (.cells #[.int .i64 x, .int .i64 y] 3)) (.slice (some ⟨w.heap.size, 0, none⟩) 2 2) [x, y] := by
  refine ⟨_, 2, rfl, by simp, by omega, fun k hk => ⟨w.heap.size, 0, rfl, ?_⟩⟩
  rw [cell_of_row _ w.heap.size (0 + k) _ _ (0, 0) (heap_alloc_new w _)]
  have : k = 0 ∨ k = 1 := by simp at hk; omega
  rcases this with rfl | rfl <;> rfl
def LtAs (w : World) (base h g c : Nat) (hs : List Int) : Prop := LtAt w base h g c hs

set_option maxRecDepth 100000 in
set_option maxHeartbeats 4000000 in
theorem alive_any (w : World) : Calls Try.prog 7 #[] w fun e w' => e = .returned (.bool true) ∧ Below w.heap.size w w' := by
  have HNEW := Lib.hid (newLt_any w 2 (by unfold In64; omega))
  go_enter Try.func7, Try.ntmps7
  go_wp2_with fail
  refine HNEW.out.mono ?_
  rintro e w1 ⟨h, g, c, rfl, X1, hb1⟩
  rw [show newM 2 = [-1, -1] from by decide +kernel] at X1
  have HX1 := Lib.hid X1
  have HB1 := Lib.hid hb1
  clear X1 hb1 HNEW
  have HP := take_any HX1.out 1 0 (by unfold In64; omega)
  unfold TakeQ at HP
  rw [show takeM [-1, -1] 1 0 = ([-1, 0], true) from by decide +kernel] at HP
  dsimp only at HP
  have HP := Lib.hid HP
  go_wp2_with fail
  refine HP.out.mono ?_
  rintro e w2 ⟨rfl, x, c2⟩
  have HX2 := Lib.hid x
  have HB2 := Lib.hid (HB1.out.trans c2.bel)
  clear x c2 HP HX1 HB1
  have HP := take_any HX2.out 0 1 (by unfold In64; omega)
  unfold TakeQ at HP
  rw [show takeM [-1, 0] 0 1 = ([1, 0], true) from by decide +kernel] at HP
  dsimp only at HP
  have HP := Lib.hid HP
  go_wp2_with fail
  refine HP.out.mono ?_
  rintro e w3 ⟨rfl, x, c2⟩
  have HX3 := Lib.hid x
  have HB3 := Lib.hid (HB2.out.trans c2.bel)
  clear x c2 HP HX2 HB2
  have HP := take_any HX3.out 0 0 (by unfold In64; omega)
  unfold TakeQ at HP
  rw [show takeM [1, 0] 0 0 = ([1, 0], false) from by decide +kernel] at HP
  dsimp only at HP
  have HP := Lib.hid HP
  go_wp2_with fail
  refine HP.out.mono ?_
  rintro e w4 ⟨rfl, x, c2⟩
  have HX4 := Lib.hid x
  have HB4 := Lib.hid (HB3.out.trans c2.bel)
  clear x c2 HP HX3 HB3
  go_wp2_with fail
  obtain ⟨wl, hwl⟩ : ∃ wl, wl = w4.alloc (.cells #[.int .i64 0, .int .i64 1] 3) := ⟨_, rfl⟩
  have hbl : Below w4.heap.size w4 wl := by rw [hwl]; exact (Below.refl _ _).alloc (Nat.le_refl _) _
  have HLIT : Hid (LieN wl (.slice (some ⟨w4.heap.size, 0, none⟩) 2 2) [0, 1]) := Lib.hid (by rw [hwl]; exact lit2_lie w4 (0) (1))
  rw [← hwl]
  have HX5 := Lib.hid (HX4.out.below hbl)
  have HB5 := Lib.hid (HB4.out.trans (hbl.mono HB4.out.size))
  obtain ⟨gl, hgl⟩ : ∃ gl, gl = w4.heap.size := ⟨_, rfl⟩
  rw [← hgl] at HLIT ⊢
  have HP := ring_any HX5.out HLIT.out (by simp)
  unfold RingQ at HP
  rw [show ringM [1, 0] [0, 1] = [0, 1] from by rw [ring_same]; decide +kernel] at HP
  have HP := Lib.hid HP
  clear hwl hbl hgl HX4 HB4
  refine HP.out.mono ?_
  rintro e w6 ⟨v, rfl, ho, hb⟩
  have HX6 := Lib.hid (HX5.out.below hb)
  have HB6 := Lib.hid (HB5.out.trans (hb.mono HB5.out.size))
  have HO := Lib.hid ho
  clear hb ho HP HX5 HB5 HLIT
  go_wp2_with fail
  obtain ⟨wl, hwl⟩ : ∃ wl, wl = w6.alloc (.cells #[.int .i64 0, .int .i64 1] 3) := ⟨_, rfl⟩
  have hbl : Below w6.heap.size w6 wl := by rw [hwl]; exact (Below.refl _ _).alloc (Nat.le_refl _) _
  have HLIT : Hid (LieN wl (.slice (some ⟨w6.heap.size, 0, none⟩) 2 2) [0, 1]) := Lib.hid (by rw [hwl]; exact lit2_lie w6 (0) (1))
  rw [← hwl]
  have HX7 := Lib.hid (HX6.out.below hbl)
  have HB7 := Lib.hid (HB6.out.trans (hbl.mono HB6.out.size))
  have HS := Lib.hid (same_any (HO.out.lie.below hbl) HLIT.out)
  clear hwl hbl HX6
  refine HS.out.mono ?_
  rintro e w8 ⟨rfl, m, hm⟩
  have hd : Below wl.heap.size wl w8 := by rw [hm]; exact (Chg.drawn none _ wl m).bel
  have HX8 := Lib.hid (HX7.out.below hd)
  have HB8 := Lib.hid (HB7.out.trans (hd.mono HB7.out.size))
  clear hm hd HS HLIT HO HX7 HB7 HB6
  have HP := holder_any HX8.out 1
  rw [show holdM [1, 0] 1 = 0 from by decide +kernel] at HP
  have HP := Lib.hid HP
  go_wp2_with fail
  refine HP.out.mono ?_
  rintro e w' ⟨rfl, rfl⟩
  have HQ := held_any HX8.out 1
  rw [show heldM [1, 0] 1 = [0] from by decide +kernel] at HQ
  have HQ := Lib.hid HQ
  clear HP
  go_wp2_with fail
  refine HQ.out.mono ?_
  rintro e w9 ⟨v, rfl, ho, hb⟩
  have HX9 := Lib.hid (HX8.out.below hb)
  have HB9 := Lib.hid (HB8.out.trans (hb.mono HB8.out.size))
  have HO := Lib.hid ho
  clear hb ho HQ HX8 HB8
  go_wp2_with fail
  obtain ⟨wl, hwl⟩ : ∃ wl, wl = w9.alloc (.cells #[.int .i64 0] 3) := ⟨_, rfl⟩
  have hbl : Below w9.heap.size w9 wl := by rw [hwl]; exact (Below.refl _ _).alloc (Nat.le_refl _) _
  have HLIT : Hid (LieN wl (.slice (some ⟨w9.heap.size, 0, none⟩) 1 1) [0]) := Lib.hid (by rw [hwl]; exact lit_lie w9 (0))
  rw [← hwl]
  have HX10 := Lib.hid (HX9.out.below hbl)
  have HB10 := Lib.hid (HB9.out.trans (hbl.mono HB9.out.size))
  have HS := Lib.hid (same_any (HO.out.lie.below hbl) HLIT.out)
  clear hwl hbl HX9
  refine HS.out.mono ?_
  rintro e w11 ⟨rfl, m, hm⟩
  have hd : Below wl.heap.size wl w11 := by rw [hm]; exact (Chg.drawn none _ wl m).bel
  have HX11 := Lib.hid (HX10.out.below hd)
  have HB11 := Lib.hid (HB10.out.trans (hd.mono HB10.out.size))
  clear hm hd HS HLIT HO HX10 HB10 HB9
  have HP := drop_any HX11.out 1 1 (by unfold In64; omega)
  unfold DropQ at HP
  rw [show dropM [1, 0] 1 1 = ([1, 0], false) from by decide +kernel] at HP
  dsimp only at HP
  have HP := Lib.hid HP
  go_wp2_with fail
  refine HP.out.mono ?_
  rintro e w12 ⟨rfl, x, c2⟩
  have HX12 := Lib.hid x
  have HB12 := Lib.hid (HB11.out.trans c2.bel)
  clear x c2 HP HX11 HB11
  have HP := drop_any HX12.out 1 0 (by unfold In64; omega)
  unfold DropQ at HP
  rw [show dropM [1, 0] 1 0 = ([1, -1], true) from by decide +kernel] at HP
  dsimp only at HP
  have HP := Lib.hid HP
  go_wp2_with fail
  refine HP.out.mono ?_
  rintro e w13 ⟨rfl, x, c2⟩
  have HX13 := Lib.hid x
  have HB13 := Lib.hid (HB12.out.trans c2.bel)
  clear x c2 HP HX12 HB12
  have HQ := Lib.hid (all_any HX13.out)
  go_wp2_with fail
  refine HQ.out.mono ?_
  rintro e w14 ⟨v, rfl, ho, hb⟩
  have HX14 := Lib.hid (HX13.out.below hb)
  have HB14 := Lib.hid (HB13.out.trans (hb.mono HB13.out.size))
  have HO := Lib.hid ho
  clear hb ho HQ HX13 HB13
  go_wp2_with fail
  obtain ⟨wl, hwl⟩ : ∃ wl, wl = w14.alloc (.cells #[.int .i64 1, .int .i64 (-1)] 3) := ⟨_, rfl⟩
  have hbl : Below w14.heap.size w14 wl := by rw [hwl]; exact (Below.refl _ _).alloc (Nat.le_refl _) _
  have HLIT : Hid (LieN wl (.slice (some ⟨w14.heap.size, 0, none⟩) 2 2) [1, -1]) := Lib.hid (by rw [hwl]; exact lit2_lie w14 (1) (-1))
  rw [← hwl]
  have HX15 := Lib.hid (HX14.out.below hbl)
  have HB15 := Lib.hid (HB14.out.trans (hbl.mono HB14.out.size))
  have HS := Lib.hid (same_any (HO.out.lie.below hbl) HLIT.out)
  clear hwl hbl HX14
  refine HS.out.mono ?_
  rintro e w16 ⟨rfl, m, hm⟩
  have hd : Below wl.heap.size wl w16 := by rw [hm]; exact (Chg.drawn none _ wl m).bel
  have HX16 := Lib.hid (HX15.out.below hd)
  have HB16 := Lib.hid (HB15.out.trans (hd.mono HB15.out.size))
  clear hm hd HS HLIT HO HX15 HB15 HB14
  go_wp2_with fail
  obtain ⟨wl, hwl⟩ : ∃ wl, wl = w16.alloc (.cells #[.int .i64 0, .int .i64 1] 3) := ⟨_, rfl⟩
  have hbl : Below w16.heap.size w16 wl := by rw [hwl]; exact (Below.refl _ _).alloc (Nat.le_refl _) _
  have HLIT : Hid (LieN wl (.slice (some ⟨w16.heap.size, 0, none⟩) 2 2) [0, 1]) := Lib.hid (by rw [hwl]; exact lit2_lie w16 (0) (1))
  rw [← hwl]
  have HX17 := Lib.hid (HX16.out.below hbl)
  have HB17 := Lib.hid (HB16.out.trans (hbl.mono HB16.out.size))
  obtain ⟨gl, hgl⟩ : ∃ gl, gl = w16.heap.size := ⟨_, rfl⟩
  rw [← hgl] at HLIT ⊢
  have HP := ring_any HX17.out HLIT.out (by simp)
  unfold RingQ at HP
  rw [show ringM [1, -1] [0, 1] = [] from by rw [ring_same]; decide +kernel] at HP
  have HP := Lib.hid HP
  clear hwl hbl hgl HX16 HB16
  refine HP.out.mono ?_
  rintro e w18 ⟨v, rfl, ho, hb⟩
  have HX18 := Lib.hid (HX17.out.below hb)
  have HB18 := Lib.hid (HB17.out.trans (hb.mono HB17.out.size))
  have HO := Lib.hid ho
  clear hb ho HP HX17 HB17 HLIT
  obtain ⟨A, cc, rfl⟩ := HO.out.form_n (show ([] : List Int).length = 0 from rfl)
  go_wp2
  go_ret
  exact ⟨rfl, HB18.out⟩

end Go.Proofs.Ytpdihmlilbccjaa
