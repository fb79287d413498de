/- The walk of LatticeAlgebra. -/
import Derived.Test.YtogmiofmhmbhbaaMz
namespace Go.Proofs.Ytogmiofmhmbhbaa
open Go.RowKit

set_option maxRecDepth 100000 in
set_option maxHeartbeats 4000000 in
theorem algebra_walk (w : World) (n a b c : Int) (m cap off : Nat) (A : Option Addr) (es : List (Int × Int)) (hA : EdgesIn w w.heap.size A off es) (hm : es.length = m) :
    Calls Try.prog 5 #[.int .i64 n, .slice A m cap, .int .i64 a, .int .i64 b, .int .i64 c] w (LawPost w) := by
  have HM := Lib.hid hm
  clear hm
  by_cases h200 : 200 < m
  · go_enter Try.func5, Try.ntmps5
    go_wp2_with fail
    refine (alive_any _).mono ?_
    rintro e w1 ⟨rfl, hb1⟩
    go_wp2
    go_ret
    exact ⟨rfl, hb1⟩
  · go_enter Try.func5, Try.ntmps5
    go_wp2_with fail
    refine (alive_any _).mono ?_
    rintro e w1 ⟨rfl, hb1⟩
    have hs1 := hb1.size
    go_wp2_with fail
    refine (copies_any _ m cap off A es ((hA.below hb1).more hs1) HM.out (by omega)).mono ?_
    rintro e w2 ⟨v, rfl, hv, hb2⟩
    obtain ⟨A2, c2, rfl, hE⟩ := hv.edges
    have hb02 : Below w.heap.size w w2 := hb1.trans (hb2.mono hs1)
    have hs2 := hb02.size
    rw [HM.out]
    go_wp2_with fail
    refine (new_any _ n m c2 A2 es hE HM.out (by omega)).mono ?_
    rintro e w3 ⟨hb3, hcase⟩
    have hb03 : Below w.heap.size w w3 := hb02.trans (hb3.mono hs2)
    rcases hcase with ⟨_, rfl⟩ | ⟨_, _, _, rfl⟩ | ⟨_, _, _, _, rfl⟩ | ⟨hn1, hn8, hbad, hlat, h, gu, gv, hh, hu, hv, o, rfl⟩
    · go_wp2
      go_ret
      exact ⟨rfl, hb03⟩
    · go_wp2
      go_ret
      exact ⟨rfl, hb03⟩
    · go_wp2
      go_ret
      exact ⟨rfl, hb03⟩
    · obtain ⟨k, rfl⟩ := Int.eq_ofNat_of_zero_le (show 0 ≤ n by omega)
      have L := (new_latt hn1 hbad hlat).2
      rw [Int.toNat_natCast] at L o
      obtain ⟨U, hU⟩ : ∃ U, U = reachL k es := ⟨_, rfl⟩
      rw [← hU] at L o
      obtain ⟨D, hD⟩ : ∃ D, D = turnedL U := ⟨_, rfl⟩
      rw [← hD] at L o
      have HL := Lib.hid L
      clear hU hD hbad hlat L
      by_cases hin : 0 ≤ a ∧ 0 ≤ b ∧ 0 ≤ c ∧ a < k ∧ b < k ∧ c < k
      · obtain ⟨ha0, hb0, hc0, ha, hb, hc⟩ := hin
        obtain ⟨x, rfl⟩ := Int.eq_ofNat_of_zero_le ha0
        obtain ⟨y, rfl⟩ := Int.eq_ofNat_of_zero_le hb0
        obtain ⟨z, rfl⟩ := Int.eq_ofNat_of_zero_le hc0
        have hx : x < k := by omega
        have hy : y < k := by omega
        have hz : z < k := by omega
        clear ha0 hb0 hc0 ha hb hc
        have hk0 : 0 < k := by omega
        have hs0 : w.heap.size ≤ w3.heap.size := hb03.size
        have o0 := o
        have hb0 := hb03
        clear o hb03 hh hu hv hb3 hs2 hb02 hE hb2 hs1 hb1
        go_wp2_with fail
        refine (join_on w w.heap.size _ h gu gv k U D o0 hb0 hs0 HL.out x y hx hy _ (by simp)).mono ?_
        rintro e w' ⟨rfl, o1, hb1, hs1⟩
        clear o0 hb0 hs0
        go_wp2_with fail
        refine (join_on w w.heap.size _ h gu gv k U D o1 hb1 hs1 HL.out y x hy hx _ (by simp)).mono ?_
        rintro e w' ⟨rfl, o2, hb2, hs2⟩
        clear o1 hb1 hs1
        rw [HL.out.J_comm hy hx]
        go_wp2_with fail
        refine (meet_on w w.heap.size _ h gu gv k U D o2 hb2 hs2 HL.out x y hx hy _ (by simp)).mono ?_
        rintro e w' ⟨rfl, o3, hb3, hs3⟩
        clear o2 hb2 hs2
        go_wp2_with fail
        refine (meet_on w w.heap.size _ h gu gv k U D o3 hb3 hs3 HL.out y x hy hx _ (by simp)).mono ?_
        rintro e w' ⟨rfl, o4, hb4, hs4⟩
        clear o3 hb3 hs3
        rw [HL.out.turn.J_comm hy hx]
        go_wp2_with fail
        refine (join_on w w.heap.size _ h gu gv k U D o4 hb4 hs4 HL.out y z hy hz _ (by simp)).mono ?_
        rintro e w' ⟨rfl, o5, hb5, hs5⟩
        clear o4 hb4 hs4
        go_wp2_with fail
        refine (join_on w w.heap.size _ h gu gv k U D o5 hb5 hs5 HL.out x (J U y z) hx (HL.out.J_lt hy hz) _ (by simp)).mono ?_
        rintro e w' ⟨rfl, o6, hb6, hs6⟩
        clear o5 hb5 hs5
        rw [HL.out.J_assoc hx hy hz]
        go_wp2_with fail
        refine (join_on w w.heap.size _ h gu gv k U D o6 hb6 hs6 HL.out x y hx hy _ (by simp)).mono ?_
        rintro e w' ⟨rfl, o7, hb7, hs7⟩
        clear o6 hb6 hs6
        go_wp2_with fail
        refine (join_on w w.heap.size _ h gu gv k U D o7 hb7 hs7 HL.out (J U x y) z (HL.out.J_lt hx hy) hz _ (by simp)).mono ?_
        rintro e w' ⟨rfl, o8, hb8, hs8⟩
        clear o7 hb7 hs7
        go_wp2_with fail
        refine (meet_on w w.heap.size _ h gu gv k U D o8 hb8 hs8 HL.out y z hy hz _ (by simp)).mono ?_
        rintro e w' ⟨rfl, o9, hb9, hs9⟩
        clear o8 hb8 hs8
        go_wp2_with fail
        refine (meet_on w w.heap.size _ h gu gv k U D o9 hb9 hs9 HL.out x (J D y z) hx (HL.out.turn.J_lt hy hz) _ (by simp)).mono ?_
        rintro e w' ⟨rfl, o10, hb10, hs10⟩
        clear o9 hb9 hs9
        rw [HL.out.turn.J_assoc hx hy hz]
        go_wp2_with fail
        refine (meet_on w w.heap.size _ h gu gv k U D o10 hb10 hs10 HL.out x y hx hy _ (by simp)).mono ?_
        rintro e w' ⟨rfl, o11, hb11, hs11⟩
        clear o10 hb10 hs10
        go_wp2_with fail
        refine (meet_on w w.heap.size _ h gu gv k U D o11 hb11 hs11 HL.out (J D x y) z (HL.out.turn.J_lt hx hy) hz _ (by simp)).mono ?_
        rintro e w' ⟨rfl, o12, hb12, hs12⟩
        clear o11 hb11 hs11
        go_wp2_with fail
        refine (meet_on w w.heap.size _ h gu gv k U D o12 hb12 hs12 HL.out x y hx hy _ (by simp)).mono ?_
        rintro e w' ⟨rfl, o13, hb13, hs13⟩
        clear o12 hb12 hs12
        go_wp2_with fail
        refine (join_on w w.heap.size _ h gu gv k U D o13 hb13 hs13 HL.out x (J D x y) hx (HL.out.turn.J_lt hx hy) _ (by simp)).mono ?_
        rintro e w' ⟨rfl, o14, hb14, hs14⟩
        clear o13 hb13 hs13
        rw [HL.out.absorb hx hy]
        go_wp2_with fail
        refine (join_on w w.heap.size _ h gu gv k U D o14 hb14 hs14 HL.out x y hx hy _ (by simp)).mono ?_
        rintro e w' ⟨rfl, o15, hb15, hs15⟩
        clear o14 hb14 hs14
        go_wp2_with fail
        refine (meet_on w w.heap.size _ h gu gv k U D o15 hb15 hs15 HL.out x (J U x y) hx (HL.out.J_lt hx hy) _ (by simp)).mono ?_
        rintro e w' ⟨rfl, o16, hb16, hs16⟩
        clear o15 hb15 hs15
        rw [HL.out.turn.absorb hx hy]
        by_cases hxy : B U x y
        · have HXY := Lib.hid hxy
          clear hxy
          go_wp2_with fail
          refine (most_in _ h gu gv k U D o16 x y hx hy).mono ?_
          rintro e w' ⟨rfl, rfl⟩
          rw [show (gd U x).testBit y = true from HXY.out]
          go_wp2_with fail
          refine (join_on w w.heap.size _ h gu gv k U D o16 hb16 hs16 HL.out x y hx hy _ (by simp)).mono ?_
          rintro e w' ⟨rfl, o17, hb17, hs17⟩
          clear o16 hb16 hs16
          rw [(HL.out.B_join hx hy).1 HXY.out]
          go_wp2_with fail
          refine (most_in _ h gu gv k U D o17 x y hx hy).mono ?_
          rintro e w' ⟨rfl, rfl⟩
          rw [show (gd U x).testBit y = true from HXY.out]
          go_wp2_with fail
          refine (meet_on w w.heap.size _ h gu gv k U D o17 hb17 hs17 HL.out x y hx hy _ (by simp)).mono ?_
          rintro e w' ⟨rfl, o18, hb18, hs18⟩
          clear o17 hb17 hs17
          rw [(HL.out.B_meet hx hy).1 HXY.out]
          go_wp2_with fail
          refine (bottom_two _ h gu gv k U D o18 HL.out hk0).mono ?_
          rintro e w' ⟨rfl, rfl⟩
          go_wp2_with fail
          refine (most_in _ h gu gv k U D o18 (Bt U) x (HL.out.Bt_spec hk0).2.1 hx).mono ?_
          rintro e w' ⟨rfl, rfl⟩
          rw [show (gd U (Bt U)).testBit x = true from (HL.out.Bt_spec hk0).2.2 x hx]
          go_wp2_with fail
          refine (top_two _ h gu gv k U D o18 HL.out hk0).mono ?_
          rintro e w' ⟨rfl, rfl⟩
          go_wp2_with fail
          refine (most_in _ h gu gv k U D o18 x (Bt D) hx (HL.out.turn.Bt_spec hk0).2.1).mono ?_
          rintro e w' ⟨rfl, rfl⟩
          rw [show (gd U x).testBit (Bt D) = true from (HL.out.flip _ _).1 ((HL.out.turn.Bt_spec hk0).2.2 x hx)]
          go_wp2
          go_ret
          exact ⟨rfl, hb18⟩
        · have HXY := Lib.hid hxy
          have HBF : Hid ((gd U x).testBit y = false) := Lib.hid (by have h := HXY.out; unfold B at h; simpa using h)
          have f1 : (((J U x y : Nat) : Int) == (y : Int)) = false := beq_eq_false_iff_ne.2 (fun h => HXY.out ((HL.out.B_join hx hy).2 (Int.ofNat.inj h)))
          have f2 : (((J D x y : Nat) : Int) == (x : Int)) = false := beq_eq_false_iff_ne.2 (fun h => HXY.out ((HL.out.B_meet hx hy).2 (Int.ofNat.inj h)))
          clear hxy
          go_wp2_with fail
          refine (most_in _ h gu gv k U D o16 x y hx hy).mono ?_
          rintro e w' ⟨rfl, rfl⟩
          rw [HBF.out]
          go_wp2_with fail
          refine (join_on w w.heap.size _ h gu gv k U D o16 hb16 hs16 HL.out x y hx hy _ (by simp)).mono ?_
          rintro e w' ⟨rfl, o17, hb17, hs17⟩
          clear o16 hb16 hs16
          go_wp2_with fail
          refine (most_in _ h gu gv k U D o17 x y hx hy).mono ?_
          rintro e w' ⟨rfl, rfl⟩
          rw [HBF.out]
          go_wp2_with fail
          refine (meet_on w w.heap.size _ h gu gv k U D o17 hb17 hs17 HL.out x y hx hy _ (by simp)).mono ?_
          rintro e w' ⟨rfl, o18, hb18, hs18⟩
          clear o17 hb17 hs17
          go_wp2_with fail
          refine (bottom_two _ h gu gv k U D o18 HL.out hk0).mono ?_
          rintro e w' ⟨rfl, rfl⟩
          go_wp2_with fail
          refine (most_in _ h gu gv k U D o18 (Bt U) x (HL.out.Bt_spec hk0).2.1 hx).mono ?_
          rintro e w' ⟨rfl, rfl⟩
          rw [show (gd U (Bt U)).testBit x = true from (HL.out.Bt_spec hk0).2.2 x hx]
          go_wp2_with fail
          refine (top_two _ h gu gv k U D o18 HL.out hk0).mono ?_
          rintro e w' ⟨rfl, rfl⟩
          go_wp2_with fail
          refine (most_in _ h gu gv k U D o18 x (Bt D) hx (HL.out.turn.Bt_spec hk0).2.1).mono ?_
          rintro e w' ⟨rfl, rfl⟩
          rw [show (gd U x).testBit (Bt D) = true from (HL.out.flip _ _).1 ((HL.out.turn.Bt_spec hk0).2.2 x hx)]
          go_wp2
          go_ret
          exact ⟨rfl, hb18⟩
      · have hk0 : 0 < k := by omega
        by_cases c1 : a < 0
        · clear hin; go_wp2; go_ret; exact ⟨rfl, hb03⟩
        by_cases c2 : b < 0
        · clear hin; go_wp2; go_ret; exact ⟨rfl, hb03⟩
        by_cases c3 : c < 0
        · clear hin; go_wp2; go_ret; exact ⟨rfl, hb03⟩
        by_cases c4 : (k : Int) ≤ a
        · clear hin; go_wp2; go_ret; exact ⟨rfl, hb03⟩
        by_cases c5 : (k : Int) ≤ b
        · clear hin; go_wp2; go_ret; exact ⟨rfl, hb03⟩
        by_cases c6 : (k : Int) ≤ c
        · clear hin; go_wp2; go_ret; exact ⟨rfl, hb03⟩
        exfalso; omega

end Go.Proofs.Ytogmiofmhmbhbaa
