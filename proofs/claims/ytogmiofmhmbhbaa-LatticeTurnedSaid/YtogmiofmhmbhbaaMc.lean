/- The walk of LatticeTurned. -/
import Derived.Test.YtogmiofmhmbhbaaMb
import Derived.Test.YtogmiofmhmbhbaaPh
namespace Go.Proofs.Ytogmiofmhmbhbaa
open Go.RowKit

theorem join_free (w0 : World) (B0 : Nat) (w : World) (h gu gv n : Nat) (U D : List Nat) (o : OrdAt w h gu gv n U D) (hb : Below B0 w0 w) (hB : B0 ≤ w.heap.size) (a b : Int) (g : Nat) (hg : g = w.heap.size) :
    Calls Try.prog 17 #[.pointer (some ⟨h, 0, none⟩), .slice (some ⟨g, 0, none⟩) 2 2] (w.alloc (.cells #[.int .i64 a, .int .i64 b] 3)) (Kept B0 w0 h gu gv n U D (.int .i64 (lev U [a, b]))) :=
  (join_any _ h gu gv n U D (o.alloc _) [a, b] _ 2 2 (Ints.at2 _ _ _ _ hg) rfl (by omega)).mono fun _ _ ⟨he, hw⟩ => ⟨he, by rw [← hw]; exact o.alloc _, by rw [← hw]; exact hb.alloc hB _, by rw [← hw]; simp; omega⟩
theorem meet_free (w0 : World) (B0 : Nat) (w : World) (h gu gv n : Nat) (U D : List Nat) (o : OrdAt w h gu gv n U D) (hb : Below B0 w0 w) (hB : B0 ≤ w.heap.size) (a b : Int) (g : Nat) (hg : g = w.heap.size) :
    Calls Try.prog 19 #[.pointer (some ⟨h, 0, none⟩), .slice (some ⟨g, 0, none⟩) 2 2] (w.alloc (.cells #[.int .i64 a, .int .i64 b] 3)) (Kept B0 w0 h gu gv n U D (.int .i64 (lev D [a, b]))) :=
  (meet_any _ h gu gv n U D (o.alloc _) [a, b] _ 2 2 (Ints.at2 _ _ _ _ hg) rfl (by omega)).mono fun _ _ ⟨he, hw⟩ => ⟨he, by rw [← hw]; exact o.alloc _, by rw [← hw]; exact hb.alloc hB _, by rw [← hw]; simp; omega⟩

set_option maxRecDepth 100000 in
set_option maxHeartbeats 4000000 in
theorem turned_walk (w : World) (n a b : Int) (m cap off : Nat) (A : Option Addr) (es : List (Int × Int)) (hA : EdgesIn w w.heap.size A off es) (hm : es.length = m) :
    Calls Try.prog 8 #[.int .i64 n, .slice A m cap, .int .i64 a, .int .i64 b] w (LawPost w) := by
  have HM := Lib.hid hm
  clear hm
  by_cases h200 : 200 < m
  · go_enter Try.func8, Try.ntmps8
    go_wp2_with fail
    refine (alive_any _).mono ?_
    rintro e w1 ⟨rfl, hb1⟩
    go_wp2
    go_ret
    exact ⟨rfl, hb1⟩
  · go_enter Try.func8, Try.ntmps8
    go_wp2_with fail
    refine (alive_any _).mono ?_
    rintro e w1 ⟨rfl, hb1⟩
    have hs1 := hb1.size
    have hE1 := (hA.below hb1)
    obtain ⟨B, hB⟩ : ∃ B, B = w1.heap.size := ⟨_, rfl⟩
    have HB := Lib.hid hB
    have hv : OwnEdges (w1.alloc (.cells #[] 47)) B (.slice (some ⟨w1.heap.size, 0, none⟩) 0 0) [] := by
      rw [hB]; exact World.ownsRow_lit (e := 47) (size := 2) w1 #[] 0 (Nat.le_refl _) (by unfold maxLen; omega) rfl
    have hb2 : Below B w1 (w1.alloc (.cells #[] 47)) := by rw [hB]; exact (Below.refl _ _).alloc (Nat.le_refl _) _
    clear hB
    go_wp2
    go_loopw [10, 9] (fun i s9 wr => ∃ t : Nat, t ≤ m ∧ i = .int .i64 t ∧ OwnEdges wr B s9 (revE (es.take t)) ∧ Below B w1 wr) (fun i _ _ => m - (intOf i).toNat)
    case atStart => exact ⟨0, Nat.zero_le _, rfl, hv, hb2⟩
    case round =>
      obtain ⟨t, ht, rfl, hown, hb⟩ := hrel
      by_cases hlt : t < m
      · have hEr := (hE1.more (show w.heap.size ≤ B by rw [HB.out]; exact hs1)).below hb
        obtain ⟨b, rfl, hbb, ht0, ht1⟩ := hEr t (by rw [HM.out]; exact hlt)
        have HS := Lib.hid (revE_take es t (by rw [HM.out]; exact hlt))
        obtain ⟨x0, hx0⟩ : ∃ x, x = (ge es t).1 := ⟨_, rfl⟩
        obtain ⟨x1, hx1⟩ : ∃ x, x = (ge es t).2 := ⟨_, rfl⟩
        rw [← hx0] at ht0 HS
        rw [← hx1] at ht1 HS
        have hlen : (revE (es.take t)).length ≤ 100000 := by rw [revE_len, List.length_take]; omega
        obtain ⟨xs, hxs⟩ : ∃ xs, xs = revE (es.take t) := ⟨_, rfl⟩
        rw [← hxs] at hown hlen HS
        have hBr : B ≤ wr.heap.size := by have := hb.size; rw [HB.out]; exact this
        have HOWN := Lib.hid hown
        have HN2 := Lib.hid (one_edge (w := wr) (e := (x1, x0)) (g := wr.heap.size) rfl)
        clear hx0 hx1 hxs hown
        go_wp2
        go_region_law (refine step_append_edge rfl _ _ rfl B _ xs rfl (by exact HOWN.out.alloc _) ⟨wr.heap.size, 0, none⟩ 1 (x1, x0) rfl (by exact HN2.out) hlen (by simp; omega) ?_; intro v' w3 hown3 hgr)
        all_goals
          go_wp2
          go_roundw
          case rel => exact ⟨t + 1, by omega, by go_num, by rw [HS.out]; exact hown3, by
            refine Below.grown ?_ hgr (by simp; omega) (fun g hg => (HOWN.out.lt g hg).1)
            repeat (first | exact hb.alloc hBr _ | refine Below.drew ?_)⟩
          case measure => simp [intOf]; omega
      · obtain rfl : t = m := by omega
        have hbw3 : Below w.heap.size w wr := hb1.trans (hb.mono (by rw [HB.out]; exact hs1))
        have hs3 := hbw3.size
        rw [List.take_of_length_le (show es.length ≤ t by rw [HM.out]; exact Nat.le_refl _)] at hown
        obtain ⟨A2, c2, rfl, _⟩ := hown.edges
        clear hb hE1 hv hb2
        go_wp2_with fail
        refine (copies_any _ t cap off A es ((hA.below hbw3).more hs3) HM.out (by omega)).mono ?_
        rintro e w4 ⟨v3, rfl, hv3, hb4⟩
        obtain ⟨A3, c3, rfl, hE3⟩ := hv3.edges
        have hown4 := hown.below hb4
        have hbw4 : Below w.heap.size w w4 := hbw3.trans (hb4.mono hs3)
        have hs4 := hbw4.size
        rw [HM.out]
        go_wp2_with fail
        refine (new_any _ n t c3 A3 es hE3 HM.out (by omega)).mono ?_
        rintro e w5 hp5
        have hbw5 : Below w.heap.size w w5 := hbw4.trans (hp5.1.mono hs4)
        have hs5 := hbw5.size
        have hown5 := hown4.below hp5.1
        obtain ⟨A5, c5, hv5, hE5⟩ := hown5.edges
        obtain ⟨rfl, _, rfl⟩ : A5 = A2 ∧ True ∧ c5 = c2 := by
          simp only [Value.slice.injEq] at hv5
          exact ⟨hv5.1.symm, trivial, hv5.2.2.symm⟩
        obtain ⟨q, hq⟩ : ∃ q, q = (revE es).length := ⟨_, rfl⟩
        rw [← hq]
        have HQ := Lib.hid hq.symm
        have HQ2 : Hid (q ≤ 4611686018427387904) := Lib.hid (by rw [hq, revE_len, HM.out]; omega)
        have HE5 := Lib.hid hE5
        clear hv5 hown5 hown4 hown hv3 hE3 hb4 hq hE5
        rcases hp5.2 with ⟨hno, rfl⟩ | ⟨h1, h8, hbad, rfl⟩ | ⟨h1, h8, hbad, hlat, rfl⟩ | ⟨h1, h8, hbad, hlat, h, gu, gv, hh, hu, hv, o, rfl⟩
        · have HNO2 := Lib.hid hno
          clear hno
          go_wp2_with fail
          refine (new_any _ n q c5 A5 (revE es) HE5.out HQ.out HQ2.out).mono ?_
          rintro e w6 hp6
          obtain rfl := new_out hp6 HNO2.out
          go_wp2
          go_ret
          exact ⟨rfl, hbw5.trans (hp6.1.mono hs5)⟩
        · have HBD := Lib.hid hbad
          clear hbad
          go_wp2_with fail
          refine (new_any _ n q c5 A5 (revE es) HE5.out HQ.out HQ2.out).mono ?_
          rintro e w6 hp6
          obtain rfl := new_wrong hp6 h1 h8 (by rw [badEs_rev]; exact HBD.out)
          go_wp2
          go_ret
          exact ⟨rfl, hbw5.trans (hp6.1.mono hs5)⟩
        · have HBD := Lib.hid hbad
          have HLT := Lib.hid hlat
          have HRE : Hid (RightEs n.toNat es) := Lib.hid (fun e he => by have := badEs_no hbad e he; omega)
          clear hbad hlat
          go_wp2_with fail
          refine (new_any _ n q c5 A5 (revE es) HE5.out HQ.out HQ2.out).mono ?_
          rintro e w6 hp6
          have P := reach_pre n.toNat es HRE.out
          obtain rfl := new_no hp6 h1 h8 (by rw [badEs_rev]; exact HBD.out) (by rw [reach_rev _ _ HRE.out, turned_turned P, latB_turn P]; exact HLT.out)
          clear P
          go_wp2
          go_ret
          exact ⟨rfl, hbw5.trans (hp6.1.mono hs5)⟩
        · have HBD := Lib.hid hbad
          have HLT := Lib.hid hlat
          have HRE : Hid (RightEs n.toNat es) := Lib.hid (fun e he => by have := badEs_no hbad e he; omega)
          have HLA := Lib.hid (new_latt h1 hbad hlat).2
          clear hbad hlat
          go_wp2_with fail
          refine (new_any _ n q c5 A5 (revE es) HE5.out HQ.out HQ2.out).mono ?_
          rintro e w6 hp6
          have P := reach_pre n.toNat es HRE.out
          obtain ⟨h2, gu2, gv2, hh2, hu2, hv2, o2, rfl⟩ := new_yes hp6 h1 h8 (by rw [badEs_rev]; exact HBD.out) (by rw [reach_rev _ _ HRE.out, turned_turned P, latB_turn P]; exact HLT.out)
          rw [reach_rev _ _ HRE.out, turned_turned P] at o2
          have hol := o.lt
          have o6 := o.below hp6.1 hol.1 hol.2.1 hol.2.2
          have hbw6 : Below w.heap.size w w6 := hbw5.trans (hp6.1.mono hs5)
          have hs6 := hbw6.size
          obtain ⟨nn, rfl⟩ := Int.eq_ofNat_of_zero_le (show 0 ≤ n by omega)
          rw [Int.toNat_natCast] at o6 o2 HLA
          obtain ⟨U, hU⟩ : ∃ U, U = reachL nn es := ⟨_, rfl⟩
          rw [← hU] at o6 o2 HLA
          obtain ⟨D, hD⟩ : ∃ D, D = turnedL U := ⟨_, rfl⟩
          rw [← hD] at o6 o2 HLA
          have HH := Lib.hid (height_flip HLA.out (by omega) o6.n8)
          clear P hU hD hp5 hp6 o hol hh hu hv hh2 hu2 hv2 HE5 HQ HQ2 HBD HLT HRE
          have l6 := o6.lt
          have l2 := o2.lt
          have hb60 := Below.refl w6.heap.size w6
          have hs60 := Nat.le_refl w6.heap.size
          go_wp2_with fail
          refine (join_free w6 w6.heap.size _ h gu gv nn U D (o6.below hb60 l6.1 l6.2.1 l6.2.2) hb60 hs60 a b _ (by simp)).mono ?_
          rintro e w7 ⟨rfl, _, hb61, hs61⟩
          go_wp2_with fail
          refine (meet_free w6 w6.heap.size _ h2 gu2 gv2 nn D U (o2.below hb61 l2.1 l2.2.1 l2.2.2) hb61 hs61 a b _ (by simp)).mono ?_
          rintro e w7 ⟨rfl, _, hb62, hs62⟩
          go_wp2_with fail
          refine (meet_free w6 w6.heap.size _ h gu gv nn U D (o6.below hb62 l6.1 l6.2.1 l6.2.2) hb62 hs62 a b _ (by simp)).mono ?_
          rintro e w7 ⟨rfl, _, hb63, hs63⟩
          go_wp2_with fail
          refine (join_free w6 w6.heap.size _ h2 gu2 gv2 nn D U (o2.below hb63 l2.1 l2.2.1 l2.2.2) hb63 hs63 a b _ (by simp)).mono ?_
          rintro e w7 ⟨rfl, _, hb64, hs64⟩
          go_wp2_with fail
          refine (most_any _ h gu gv nn U D (o6.below hb64 l6.1 l6.2.1 l6.2.2) a b).mono ?_
          rintro e w' ⟨rfl, rfl⟩
          go_wp2_with fail
          refine (most_any _ h2 gu2 gv2 nn D U (o2.below hb64 l2.1 l2.2.1 l2.2.2) b a).mono ?_
          rintro e w' ⟨rfl, rfl⟩
          rw [← mst_turn HLA.out a b]
          go_wp2_with fail
          refine (height_any _ h gu gv nn U D (o6.below hb64 l6.1 l6.2.1 l6.2.2)).mono ?_
          rintro e w8 ⟨rfl, hb8⟩
          have hb65 := hb64.trans (hb8.mono hs64)
          have hs65 := hb65.size
          go_wp2_with fail
          refine (height_any _ h2 gu2 gv2 nn D U (o2.below hb65 l2.1 l2.2.1 l2.2.2)).mono ?_
          rintro e w9 ⟨rfl, hb9⟩
          rw [← HH.out]
          have hb66 := hb65.trans (hb9.mono hs65)
          have hs66 := hb66.size
          go_wp2_with fail
          refine (top_any _ h gu gv nn U D (o6.below hb66 l6.1 l6.2.1 l6.2.2)).mono ?_
          rintro e w' ⟨rfl, rfl⟩
          go_wp2_with fail
          refine (bottom_any _ h2 gu2 gv2 nn D U (o2.below hb66 l2.1 l2.2.1 l2.2.2)).mono ?_
          rintro e w' ⟨rfl, rfl⟩
          go_wp2
          go_ret
          exact ⟨rfl, hbw6.trans (hb66.mono hs6)⟩

end Go.Proofs.Ytogmiofmhmbhbaa
