/- The walk of LatticeNews. -/
import Derived.Test.YtogmiofmhmbhbaaPp
namespace Go.Proofs.Ytogmiofmhmbhbaa
open Go.RowKit

theorem Two.new0 (w : World) (a b : Int) : Two (w.alloc (.cells #[.int .i64 a, .int .i64 b] 3)) w.heap.size a b := Two.new w _ a b rfl
theorem Two.new1 (w : World) (o : Obj) (a b : Int) : Two ((w.alloc o).alloc (.cells #[.int .i64 a, .int .i64 b] 3)) (w.heap.size + 1) a b := Two.new _ _ a b (by simp)
theorem edges_in {w : World} {B : Nat} {A : Option Addr} {es : List (Int × Int)} (h : Edges w B A es) : EdgesIn w B A 0 es := fun k hk => by
  obtain ⟨b, h1, h2, h3, h4⟩ := h k hk
  exact ⟨b, h1, h2, by simpa using h3, by simpa using h4⟩
theorem Edges.into {w w' : World} {A : Option Addr} {es : List (Int × Int)} (h : Edges w w.heap.size A es) (hb : Below w.heap.size w w') : Edges w' w'.heap.size A es := fun k hk => by
  obtain ⟨b, h1, h2, h3, h4⟩ := h k hk
  exact ⟨b, h1, by have := hb.size; omega, (hb.cell (p := ⟨b, k * 2, none⟩) h2).trans h3, (hb.cell (p := ⟨b, k * 2 + 1, none⟩) h2).trans h4⟩

set_option maxRecDepth 100000 in
set_option maxHeartbeats 4000000 in
theorem news_walk (w : World) (n : Int) (m cap off : Nat) (A : Option Addr) (es : List (Int × Int)) (hA : EdgesIn w w.heap.size A off es) (hm : es.length = m) :
    Calls Try.prog 3 #[.int .i64 n, .slice A m cap] w (LawPost w) := by
  have HM := Lib.hid hm
  clear hm
  by_cases h200 : 200 < m
  · go_enter Try.func3, Try.ntmps3
    go_wp2_with fail
    refine (alive_any _).mono ?_
    rintro e w1 ⟨rfl, hb1⟩
    go_wp2
    go_ret
    exact ⟨rfl, hb1⟩
  · go_enter Try.func3, Try.ntmps3
    go_wp2_with fail
    refine (alive_any _).mono ?_
    rintro e w1 ⟨rfl, hb1⟩
    have hs1 := hb1.size
    go_wp2_with fail
    refine (copies_any _ m cap off A es ((hA.below hb1).more hs1) HM.out (by omega)).mono ?_
    rintro e w2 ⟨v, rfl, hv, hb2⟩
    obtain ⟨A2, c2, rfl, hE⟩ := hv.edges
    have hb02 : Below w.heap.size w w2 := hb1.trans (hb2.mono hs1)
    have hs2 := hb02.size
    rw [HM.out]
    go_wp2_with fail
    refine (new_any _ n m c2 A2 es hE HM.out (by omega)).mono ?_
    rintro e w3 ⟨hb3, hcase⟩
    have hb03 : Below w.heap.size w w3 := hb02.trans (hb3.mono hs2)
    have hs3 := hb03.size
    have hE3 : Edges w3 w3.heap.size A2 es := Edges.into hE hb3
    have HR : Hid (∀ e w', RNewPost w3 n es e w' → RNewPost w3 n es e w') := Lib.hid (fun _ _ h => h)
    rcases hcase with ⟨hno, rfl⟩ | ⟨h1, h8, hbad, rfl⟩ | ⟨h1, h8, hbad, hlat, rfl⟩ | ⟨hn1, hn8, hbad, hlat, h, gu, gv, hh, hu, hv, o, rfl⟩
    · go_wp2_with fail
      refine (rnew_any _ n m cap off A es ((hA.below hb03).more hs3) HM.out (by omega)).mono ?_
      rintro e w4 hp4
      obtain rfl := rnew_out hp4 hno
      have hb4 := hp4.1
      clear hp4
      have hb5 : Below w.heap.size w (w4.alloc (.cells #[.slice none 0 0] 31)) := (hb03.trans (hb4.mono hs3)).alloc (by have := hb4.size; omega) _
      have hE5 : Edges (w4.alloc (.cells #[.slice none 0 0] 31)) (w4.alloc (.cells #[.slice none 0 0] 31)).heap.size A2 es := Edges.into (Edges.into hE3 hb4) ((Below.refl _ _).alloc (Nat.le_refl _) _)
      go_wp2_with fail
      refine (sameedges_yes _ m c2 cap off A2 A es hE5 ((hA.below hb5).more hb5.size) HM.out (by omega)).mono ?_
      rintro e w6 ⟨rfl, hd6⟩
      go_wp2
      go_ret
      exact ⟨rfl, hb5.trans hd6.below⟩
    · go_wp2_with fail
      refine (rnew_any _ n m cap off A es ((hA.below hb03).more hs3) HM.out (by omega)).mono ?_
      rintro e w4 hp4
      obtain rfl := rnew_wrong hp4 h1 h8 hbad
      have hb4 := hp4.1
      clear hp4
      have hb5 : Below w.heap.size w (w4.alloc (.cells #[.slice none 0 0] 31)) := (hb03.trans (hb4.mono hs3)).alloc (by have := hb4.size; omega) _
      have hE5 : Edges (w4.alloc (.cells #[.slice none 0 0] 31)) (w4.alloc (.cells #[.slice none 0 0] 31)).heap.size A2 es := Edges.into (Edges.into hE3 hb4) ((Below.refl _ _).alloc (Nat.le_refl _) _)
      go_wp2_with fail
      refine (sameedges_yes _ m c2 cap off A2 A es hE5 ((hA.below hb5).more hb5.size) HM.out (by omega)).mono ?_
      rintro e w6 ⟨rfl, hd6⟩
      go_wp2
      go_ret
      exact ⟨rfl, hb5.trans hd6.below⟩
    · go_wp2_with fail
      refine (rnew_any _ n m cap off A es ((hA.below hb03).more hs3) HM.out (by omega)).mono ?_
      rintro e w4 hp4
      obtain rfl := rnew_no hp4 h1 h8 hbad hlat
      have hb4 := hp4.1
      clear hp4
      have hb5 : Below w.heap.size w (w4.alloc (.cells #[.slice none 0 0] 31)) := (hb03.trans (hb4.mono hs3)).alloc (by have := hb4.size; omega) _
      have hE5 : Edges (w4.alloc (.cells #[.slice none 0 0] 31)) (w4.alloc (.cells #[.slice none 0 0] 31)).heap.size A2 es := Edges.into (Edges.into hE3 hb4) ((Below.refl _ _).alloc (Nat.le_refl _) _)
      go_wp2_with fail
      refine (sameedges_yes _ m c2 cap off A2 A es hE5 ((hA.below hb5).more hb5.size) HM.out (by omega)).mono ?_
      rintro e w6 ⟨rfl, hd6⟩
      go_wp2
      go_ret
      exact ⟨rfl, hb5.trans hd6.below⟩
    · have HBAD := Lib.hid hbad
      have HLAT := Lib.hid hlat
      have HLA := Lib.hid (new_latt hn1 hbad hlat).2
      have HRE := Lib.hid (new_latt hn1 hbad hlat).1
      clear hbad hlat
      go_wp2_with fail
      refine (rnew_any _ n m cap off A es ((hA.below hb03).more hs3) HM.out (by omega)).mono ?_
      rintro e w4 hp4
      obtain ⟨vm, hM4, rfl⟩ := rnew_yes hp4 hn1 hn8 HBAD.out HLAT.out
      have hb4 := hp4.1
      obtain ⟨nn, rfl⟩ := Int.eq_ofNat_of_zero_le (show 0 ≤ n by omega)
      rw [Int.toNat_natCast] at hM4 HLA HRE o
      obtain ⟨go, co, G, C, rfl, hgo, hMc⟩ := hM4
      have hM4 : MatAt w4 w4.heap.size nn (.slice (some ⟨go, 0, none⟩) nn co) (fCl nn es) := ⟨go, co, G, C, rfl, hgo, hMc⟩
      have hsay := fCl_says nn es HRE.out
      obtain ⟨f, hf⟩ : ∃ f, f = fCl nn es := ⟨_, rfl⟩
      obtain ⟨U, hU⟩ : ∃ U, U = reachL nn es := ⟨_, rfl⟩
      rw [← hf] at hM4 hsay
      rw [← hU] at hsay HLA o
      obtain ⟨D, hD⟩ : ∃ D, D = turnedL U := ⟨_, rfl⟩
      have hsayD : Says nn D (fun a b => f b a) := by rw [hD]; exact says_turned HLA.out.pu hsay
      rw [← hD] at HLA o
      have hnn : 0 < nn := by omega
      have hn8' := o.n8
      have EJ : Hid (∀ zs, leastF nn f (levL nn zs) = lev U zs) := Lib.hid (fun zs => by
        rw [leastF_join HLA.out.pu HLA.out.au hsay (levL_range nn zs) (HLA.out.joins hnn _), lev_levL HLA.out.pu])
      have EM : Hid (∀ zs, leastF nn (fun a b => f b a) (levL nn zs) = lev D zs) := Lib.hid (fun zs => by
        rw [leastF_join HLA.out.pd HLA.out.ad hsayD (levL_range nn zs) (HLA.out.turn.joins hnn _), lev_levL HLA.out.pd])
      have hb04 : Below w.heap.size w w4 := hb03.trans (hb4.mono hs3)
      have hs4 := hb04.size
      have o4 := o.below hb4 o.lt.1 o.lt.2.1 o.lt.2.2
      obtain ⟨g9, hg9⟩ : ∃ g9, g9 = w4.heap.size := ⟨_, rfl⟩
      obtain ⟨w5, hw5⟩ : ∃ w5, w5 = w4.alloc (.cells #[.slice (some ⟨go, 0, none⟩) nn co] 31) := ⟨_, rfl⟩
      have hb45 : Below g9 w4 w5 := by rw [hw5, hg9]; exact (Below.refl _ _).alloc (Nat.le_refl _) _
      have e9 : w5.heap[g9]? = some (.cells #[.slice (some ⟨go, 0, none⟩) nn co] 31 (0, 0)) := by rw [hw5, hg9]; exact heap_alloc_new w4 _
      have hs5 : w5.heap.size = g9 + 1 := by rw [hw5, hg9]; simp
      have o5 := o4.below hb45 (by rw [hg9]; exact o4.lt.1) (by rw [hg9]; exact o4.lt.2.1) (by rw [hg9]; exact o4.lt.2.2)
      have hM5 : MatAt w5 w5.heap.size nn (.slice (some ⟨go, 0, none⟩) nn co) f := (hM4.below (by rw [← hg9]; exact hb45)).more (by omega)
      have hb05 : Below w.heap.size w w5 := hb04.trans (hb45.mono (by omega))
      have HW5 := Lib.hid hw5
      have HG9 := Lib.hid hg9
      have HM5 := Lib.hid hM5
      have hs5' := hb05.size
      have hE5 : Edges w5 w5.heap.size A2 es := Edges.into (Edges.into hE3 hb4) (by rw [← hg9]; exact hb45)
      clear hw5 hg9 hM4 hM5 hMc hf hU hD hp4 hgo hh hu hv o o4 hs4 hE hE3
      go_wp2_with fail
      rw [← HW5.out, ← HG9.out]
      refine (sameedges_yes _ m c2 cap off A2 A es hE5 ((hA.below hb05).more hb05.size) HM.out (by omega)).mono ?_
      rintro e w6 ⟨rfl, hd6⟩
      have hs56 := (hd6.below (B := 0)).size
      have hb56 : Below w5.heap.size w5 w6 := hd6.below
      have o6 := o5.below hb56 o5.lt.1 o5.lt.2.1 o5.lt.2.2
      have hM6 := (HM5.out.below hb56).more hs56
      have hb06 : Below w.heap.size w w6 := hb05.trans hd6.below
      have hs6' := hb06.size
      have q9 := cell_of_row w6 g9 0 _ _ (0, 0) ((hb56.block g9 (by omega)).trans e9)
      simp at q9
      have hg96 : g9 < w6.heap.size := by omega
      have hz0 : Bz w6.heap.size w6 w6 := ⟨Below.refl _ _, Nat.le_refl _⟩
      have EMO : Hid (∀ a b, mostF nn f a b = mst U a b) := Lib.hid (fun a b => most_says HLA.out.pu hsay a b)
      have HHT : Hid ((rkTo U (chainL D) nn).2 = heightL U D) := Lib.hid (height_says HLA.out hnn hn8')
      have HCO : Hid (ChainOk nn D (chainL D)) := Lib.hid (chain_ok HLA.out.pd HLA.out.ad hn8')
      have HBT : Hid (lev D (chainL D) = lev U []) := Lib.hid (bottom_meet HLA.out hnn HCO.out)
      have HTP : Hid (lev U (chainL D) = lev D []) := Lib.hid (top_join HLA.out hnn HCO.out)
      have l6 := o6.lt
      have hO : ∀ wx, Bz w6.heap.size w6 wx → OrdAt wx h gu gv nn U D := fun wx hx => o6.below hx.1 l6.1 l6.2.1 l6.2.2
      have hMx : ∀ wx, Bz w6.heap.size w6 wx → MatAt wx wx.heap.size nn (.slice (some ⟨go, 0, none⟩) nn co) f := fun wx hx => (hM6.below hx.1).more hx.2
      have HMO : Hid (∀ wx, Bz w6.heap.size w6 wx → ∀ a b, Calls Try.prog 15 #[.pointer (some ⟨h, 0, none⟩), .int .i64 a, .int .i64 b] wx (fun e w' => e = .returned (.bool (mst U a b)) ∧ wx = w')) := Lib.hid (fun wx hx a b =>
        most_any wx h gu gv nn U D (hO wx hx) a b)
      have HRMO : Hid (∀ wx, Bz w6.heap.size w6 wx → ∀ a b, Calls Try.prog 16 #[.agg #[.slice (some ⟨go, 0, none⟩) nn co], .int .i64 a, .int .i64 b] wx (fun e w' => e = .returned (.bool (mst U a b)) ∧ Bz w6.heap.size w6 w')) := Lib.hid (fun wx hx a b =>
        (rmost_any wx nn _ f (hMx wx hx) a b).mono fun e w' ⟨he, hb⟩ => ⟨by rw [← EMO.out]; exact he, hx.trans hb⟩)
      have HJ : Hid (∀ wx, Bz w6.heap.size w6 wx → ∀ g a b, Two wx g a b → Calls Try.prog 17 #[.pointer (some ⟨h, 0, none⟩), .slice (some ⟨g, 0, none⟩) 2 2] wx (fun e w' => e = .returned (.int .i64 (lev U [a, b])) ∧ wx = w')) := Lib.hid (fun wx hx g a b ht =>
        join_any wx h gu gv nn U D (hO wx hx) [a, b] _ 2 2 (ints_of_in ht.ints) rfl (by omega))
      have HME : Hid (∀ wx, Bz w6.heap.size w6 wx → ∀ g a b, Two wx g a b → Calls Try.prog 19 #[.pointer (some ⟨h, 0, none⟩), .slice (some ⟨g, 0, none⟩) 2 2] wx (fun e w' => e = .returned (.int .i64 (lev D [a, b])) ∧ wx = w')) := Lib.hid (fun wx hx g a b ht =>
        meet_any wx h gu gv nn U D (hO wx hx) [a, b] _ 2 2 (ints_of_in ht.ints) rfl (by omega))
      have HRJ : Hid (∀ wx, Bz w6.heap.size w6 wx → ∀ A9 c9 zs k9, IntsIn wx wx.heap.size A9 0 zs → zs.length = k9 → k9 ≤ 200 → Calls Try.prog 18 #[.agg #[.slice (some ⟨go, 0, none⟩) nn co], .slice A9 k9 c9] wx (fun e w' => e = .returned (.int .i64 (lev U zs)) ∧ Bz w6.heap.size w6 w')) := Lib.hid (fun wx hx A9 c9 zs k9 hi hk9 hk2 =>
        (rjoin_any wx nn k9 c9 0 _ f A9 zs (hMx wx hx) hi hk9 hk2 hn8').mono fun e w' ⟨he, hb⟩ => ⟨by rw [← EJ.out]; exact he, hx.trans hb⟩)
      have HRM : Hid (∀ wx, Bz w6.heap.size w6 wx → ∀ A9 c9 zs k9, IntsIn wx wx.heap.size A9 0 zs → zs.length = k9 → k9 ≤ 200 → Calls Try.prog 20 #[.agg #[.slice (some ⟨go, 0, none⟩) nn co], .slice A9 k9 c9] wx (fun e w' => e = .returned (.int .i64 (lev D zs)) ∧ Bz w6.heap.size w6 w')) := Lib.hid (fun wx hx A9 c9 zs k9 hi hk9 hk2 =>
        (rmeet_any wx nn k9 c9 0 _ f A9 zs (hMx wx hx) hi hk9 hk2 hnn hn8').mono fun e w' ⟨he, hb⟩ => ⟨by rw [← EM.out]; exact he, hx.trans hb⟩)
      have HCQ : Hid (∀ wx, Bz w6.heap.size w6 wx → wx.cell? ⟨g9, 0, none⟩ = some (.slice (some ⟨go, 0, none⟩) nn co)) := Lib.hid (fun wx hx => (hx.1.cell (p := ⟨g9, 0, none⟩) hg96).trans q9)
      have HOX := Lib.hid hO
      have HMX := Lib.hid hMx
      have HSAY := Lib.hid hsay
      clear hE5 hd6 hb56 e9 hb45 o5 hO hMx hM6 o6 l6 hsay hsayD q9
      go_wp2
      go_loopw [10] (fun i wr => ∃ a : Int, -1 ≤ a ∧ a ≤ nn + 1 ∧ i = .int .i64 a ∧ Hid (Bz w6.heap.size w6 wr)) (fun i _ => ((nn : Int) + 1 - intOf i).toNat)
      case atStart => exact ⟨-1, by omega, by omega, rfl, hz0⟩
      case round =>
        obtain ⟨a, ha1, ha2, rfl, hbk⟩ := hrel
        by_cases hlta : a ≤ (nn : Int)
        · have d1 : decide (a ≤ (nn : Int)) = true := by simpa using hlta
          go_wp2
          go_loopw [11] (fun i wr => ∃ b : Int, -1 ≤ b ∧ b ≤ nn + 1 ∧ i = .int .i64 b ∧ Hid (Bz w6.heap.size w6 wr)) (fun i _ => ((nn : Int) + 1 - intOf i).toNat)
          case atStart => exact ⟨-1, by omega, by omega, rfl, hbk⟩
          case round =>
            obtain ⟨b, hb1', hb2', rfl, hbl⟩ := hrel
            by_cases hltb : b ≤ (nn : Int)
            · have d2 : decide (b ≤ (nn : Int)) = true := by simpa using hltb
              obtain ⟨mo, hmo⟩ : ∃ mo, mo = mst U a b := ⟨_, rfl⟩
              obtain ⟨jo, hjo⟩ : ∃ jo, jo = lev U [a, b] := ⟨_, rfl⟩
              obtain ⟨me, hme⟩ : ∃ me, me = lev D [a, b] := ⟨_, rfl⟩
              have CMO := Lib.hid (fun wx hx => HMO.out wx hx a b)
              have CRMO := Lib.hid (fun wx hx => HRMO.out wx hx a b)
              have CJ := Lib.hid (fun wx hx g => HJ.out wx hx g a b)
              have CME := Lib.hid (fun wx hx g => HME.out wx hx g a b)
              have CRJ := Lib.hid (fun wx hx g (ht : Two wx g a b) => HRJ.out wx hx (some ⟨g, 0, none⟩) 2 [a, b] 2 ht.ints rfl (by omega))
              have CRM := Lib.hid (fun wx hx g (ht : Two wx g a b) => HRM.out wx hx (some ⟨g, 0, none⟩) 2 [a, b] 2 ht.ints rfl (by omega))
              rw [← hmo] at CMO CRMO
              rw [← hjo] at CJ CRJ
              rw [← hme] at CME CRM
              have q9 := HCQ.out wr hbl.out
              have hz1 := hbl.out
              clear hmo hjo hme
              go_wp2
              go_region_held3 (fun w' => w'.cell? ⟨g9, 0, none⟩ = some (.slice (some ⟨go, 0, none⟩) nn co)) (first | with_reducible exact HCQ.out _ hzz | with_reducible exact HCQ.out _ hzy | with_reducible exact HCQ.out _ hzx | go_keep)
                (first
                  | (go_at_call 15; refine (CMO.out _ ?_).mono ?_; (repeat (first | with_reducible exact hz1 | with_reducible refine Bz.drew ?_ | with_reducible refine Bz.alloc ?_ _)); rintro e w' ⟨rfl, rfl⟩)
                  | (go_at_call 16; refine (CRMO.out _ ?_).mono ?_; (repeat (first | with_reducible exact hz1 | with_reducible refine Bz.drew ?_ | with_reducible refine Bz.alloc ?_ _)); rintro e wx ⟨rfl, hzx⟩)
                  | (go_at_call 17; refine (CJ.out _ ?_ _ ?_).mono ?_; (repeat (first | with_reducible exact hzx | with_reducible refine Bz.drew ?_ | with_reducible refine Bz.alloc ?_ _)); (repeat (first | with_reducible exact Two.new0 _ _ _ | with_reducible exact Two.new1 _ _ _ _ | with_reducible refine Two.drew ?_ | with_reducible refine Two.alloc ?_ _)); rintro e w' ⟨rfl, rfl⟩)
                  | (go_at_call 19; refine (CME.out _ ?_ _ ?_).mono ?_; (repeat (first | with_reducible exact hzy | with_reducible refine Bz.drew ?_ | with_reducible refine Bz.alloc ?_ _)); (repeat (first | with_reducible exact Two.new0 _ _ _ | with_reducible exact Two.new1 _ _ _ _ | with_reducible refine Two.drew ?_ | with_reducible refine Two.alloc ?_ _)); rintro e w' ⟨rfl, rfl⟩)
                  | (go_at_call 20; refine (CRM.out _ ?_ _ ?_).mono ?_; (repeat (first | with_reducible exact hzy | with_reducible refine Bz.drew ?_ | with_reducible refine Bz.alloc ?_ _)); (repeat (first | with_reducible exact Two.new0 _ _ _ | with_reducible exact Two.new1 _ _ _ _ | with_reducible refine Two.drew ?_ | with_reducible refine Two.alloc ?_ _)); rintro e wz ⟨rfl, hzz⟩)
                  | (go_at_call 18; refine (CRJ.out _ ?_ _ ?_).mono ?_; (repeat (first | with_reducible exact hzx | with_reducible refine Bz.drew ?_ | with_reducible refine Bz.alloc ?_ _)); (repeat (first | with_reducible exact Two.new0 _ _ _ | with_reducible exact Two.new1 _ _ _ _ | with_reducible refine Two.drew ?_ | with_reducible refine Two.alloc ?_ _)); rintro e wy ⟨rfl, hzy⟩))
              all_goals
                have e1 : (me != me) = false := by simp
                go_wp2
                go_roundw
                case rel => exact ⟨b + 1, by omega, by omega, by go_num, Lib.hid hzz⟩
                case measure => simp [intOf]; omega
            · have d2 : decide (b ≤ (nn : Int)) = false := by simpa using hltb
              go_wp2
              go_roundw
              case rel => exact ⟨a + 1, by omega, by omega, by go_num, hbl⟩
              case measure => simp [intOf]; omega
        · have d1 : decide (a ≤ (nn : Int)) = false := by simpa using hlta
          obtain ⟨ht, hht⟩ : ∃ ht, ht = heightL U D := ⟨_, rfl⟩
          obtain ⟨bt, hbt⟩ : ∃ bt, bt = lev U [] := ⟨_, rfl⟩
          obtain ⟨tp, htp⟩ : ∃ tp, tp = lev D [] := ⟨_, rfl⟩
          have hcl : (chainL D).length = nn := HCO.out.len
          have CSZ : Hid (∀ wx, Bz w6.heap.size w6 wx → Calls Try.prog 21 #[.pointer (some ⟨h, 0, none⟩)] wx (fun e w' => e = .returned (.int .i64 nn) ∧ wx = w')) := Lib.hid (fun wx hx => size_any wx h gu gv nn U D (HOX.out wx hx))
          have CHO : Hid (∀ wx, Bz w6.heap.size w6 wx → Calls Try.prog 22 #[.pointer (some ⟨h, 0, none⟩)] wx (fun e w' => e = .returned (.int .i64 ht) ∧ Bz w6.heap.size w6 w')) := Lib.hid (fun wx hx =>
            (height_any wx h gu gv nn U D (HOX.out wx hx)).mono fun e w' ⟨he, hb⟩ => ⟨by rw [hht]; exact he, hx.trans hb⟩)
          have CHR : Hid (∀ wx, Bz w6.heap.size w6 wx → Calls Try.prog 23 #[.agg #[.slice (some ⟨go, 0, none⟩) nn co]] wx (fun e w' => e = .returned (.int .i64 ht) ∧ Bz w6.heap.size w6 w')) := Lib.hid (fun wx hx =>
            (rheight_any wx nn _ U D f (HMX.out wx hx) HLA.out HSAY.out hnn hn8').mono fun e w' ⟨he, hb⟩ => ⟨by rw [hht, ← HHT.out]; exact he, hx.trans hb⟩)
          have CCO : Hid (∀ wx, Bz w6.heap.size w6 wx → Calls Try.prog 25 #[.pointer (some ⟨h, 0, none⟩)] wx (fun e w' => ∃ gc cc, e = .returned (.slice (some ⟨gc, 0, none⟩) nn cc) ∧ Ints w' (some ⟨gc, 0, none⟩) (chainL D) ∧ Bz w6.heap.size w6 w')) := Lib.hid (fun wx hx =>
            (chain_any wx h gu gv nn U D (HOX.out wx hx)).mono fun e w' ⟨gc, cc, he, _, hown, hb⟩ => ⟨gc, cc, by rw [he, hcl], hown.ints.2, hx.trans hb⟩)
          have CCR : Hid (∀ wx, Bz w6.heap.size w6 wx → Calls Try.prog 26 #[.agg #[.slice (some ⟨go, 0, none⟩) nn co]] wx (fun e w' => ∃ gc cc, e = .returned (.slice (some ⟨gc, 0, none⟩) nn cc) ∧ Ints w' (some ⟨gc, 0, none⟩) (chainL D) ∧ Bz w6.heap.size w6 w' ∧ Below wx.heap.size wx w')) := Lib.hid (fun wx hx =>
            (rchain_any wx nn _ U D f (HMX.out wx hx) HLA.out HSAY.out hnn hn8').mono fun e w' ⟨gc, cc, he, _, hown, hb⟩ => ⟨gc, cc, by rw [he, hcl], hown.ints.2, hx.trans hb, hb⟩)
          have CSI : Hid (∀ wx, Bz w6.heap.size w6 wx → ∀ g1 c1 g2 c2, Ints wx (some ⟨g1, 0, none⟩) (chainL D) → Ints wx (some ⟨g2, 0, none⟩) (chainL D) → Calls Try.prog 24 #[.slice (some ⟨g1, 0, none⟩) nn c1, .slice (some ⟨g2, 0, none⟩) nn c2] wx (fun e w' => e = .returned (.bool true) ∧ Bz w6.heap.size w6 w')) := Lib.hid (fun wx hx g1 c1 g2 c2 h1 h2 =>
            (sameints_yes wx nn c1 c2 _ _ (chainL D) h1 h2 hcl (by omega)).mono fun e w' ⟨he, hd⟩ => ⟨he, hx.drawn hd⟩)
          have CBO : Hid (∀ wx, Bz w6.heap.size w6 wx → Calls Try.prog 27 #[.pointer (some ⟨h, 0, none⟩)] wx (fun e w' => e = .returned (.int .i64 bt) ∧ wx = w')) := Lib.hid (fun wx hx => by rw [hbt]; exact bottom_any wx h gu gv nn U D (HOX.out wx hx))
          have CTO : Hid (∀ wx, Bz w6.heap.size w6 wx → Calls Try.prog 28 #[.pointer (some ⟨h, 0, none⟩)] wx (fun e w' => e = .returned (.int .i64 tp) ∧ wx = w')) := Lib.hid (fun wx hx => by rw [htp]; exact top_any wx h gu gv nn U D (HOX.out wx hx))
          have CRM : Hid (∀ wx, Bz w6.heap.size w6 wx → ∀ g1 c1, Ints wx (some ⟨g1, 0, none⟩) (chainL D) → Calls Try.prog 20 #[.agg #[.slice (some ⟨go, 0, none⟩) nn co], .slice (some ⟨g1, 0, none⟩) nn c1] wx (fun e w' => e = .returned (.int .i64 bt) ∧ Bz w6.heap.size w6 w')) := Lib.hid (fun wx hx g1 c1 h1 => by
            rw [hbt, ← HBT.out]; exact HRM.out wx hx _ c1 (chainL D) nn (in_of_ints h1) hcl (by omega))
          have CRJ : Hid (∀ wx, Bz w6.heap.size w6 wx → ∀ g1 c1, Ints wx (some ⟨g1, 0, none⟩) (chainL D) → Calls Try.prog 18 #[.agg #[.slice (some ⟨go, 0, none⟩) nn co], .slice (some ⟨g1, 0, none⟩) nn c1] wx (fun e w' => e = .returned (.int .i64 tp) ∧ Bz w6.heap.size w6 w')) := Lib.hid (fun wx hx g1 c1 h1 => by
            rw [htp, ← HTP.out]; exact HRJ.out wx hx _ c1 (chainL D) nn (in_of_ints h1) hcl (by omega))
          obtain ⟨ch, hch⟩ : ∃ ch, ch = chainL D := ⟨_, rfl⟩
          rw [← hch] at CCO CCR CSI CRM CRJ
          have q9 := HCQ.out wr hbk.out
          have hz1 := hbk.out
          clear hht hbt htp hcl hch
          go_wp2
          go_region_held3 (fun w' => w'.cell? ⟨g9, 0, none⟩ = some (.slice (some ⟨go, 0, none⟩) nn co)) (first | with_reducible exact HCQ.out _ hzj | with_reducible exact HCQ.out _ hzm | with_reducible exact HCQ.out _ hzs | with_reducible exact HCQ.out _ hzc | with_reducible exact HCQ.out _ hzd | with_reducible exact HCQ.out _ hzk | with_reducible exact HCQ.out _ hzh | go_keep)
            (first
              | (go_at_call 21; refine (CSZ.out _ ?_).mono ?_; (repeat (first | with_reducible exact hzj | with_reducible exact hzm | with_reducible exact hzs | with_reducible exact hzc | with_reducible exact hzd | with_reducible exact hzk | with_reducible exact hzh | with_reducible exact hz1 | with_reducible refine Bz.drew ?_)); rintro e w' ⟨rfl, rfl⟩)
              | (go_at_call 22; refine (CHO.out _ ?_).mono ?_; (repeat (first | with_reducible exact hzj | with_reducible exact hzm | with_reducible exact hzs | with_reducible exact hzc | with_reducible exact hzd | with_reducible exact hzk | with_reducible exact hzh | with_reducible exact hz1 | with_reducible refine Bz.drew ?_)); rintro e wh ⟨rfl, hzh⟩)
              | (go_at_call 23; refine (CHR.out _ ?_).mono ?_; (repeat (first | with_reducible exact hzj | with_reducible exact hzm | with_reducible exact hzs | with_reducible exact hzc | with_reducible exact hzd | with_reducible exact hzk | with_reducible exact hzh | with_reducible exact hz1 | with_reducible refine Bz.drew ?_)); rintro e wk ⟨rfl, hzk⟩)
              | (go_at_call 25; refine (CCO.out _ ?_).mono ?_; (repeat (first | with_reducible exact hzj | with_reducible exact hzm | with_reducible exact hzs | with_reducible exact hzc | with_reducible exact hzd | with_reducible exact hzk | with_reducible exact hzh | with_reducible exact hz1 | with_reducible refine Bz.drew ?_)); rintro e wc ⟨gc, cc, rfl, hic, hzc⟩)
              | (go_at_call 26; refine (CCR.out _ ?_).mono ?_; (repeat (first | with_reducible exact hzj | with_reducible exact hzm | with_reducible exact hzs | with_reducible exact hzc | with_reducible exact hzd | with_reducible exact hzk | with_reducible exact hzh | with_reducible exact hz1 | with_reducible refine Bz.drew ?_)); rintro e wd ⟨gd', cd, rfl, hidd, hzd, hbd⟩; have hic2 := hic.below hbd)
              | (go_at_call 24; refine (CSI.out _ ?_ _ _ _ _ ?_ ?_).mono ?_; (repeat (first | with_reducible exact hzj | with_reducible exact hzm | with_reducible exact hzs | with_reducible exact hzc | with_reducible exact hzd | with_reducible exact hzk | with_reducible exact hzh | with_reducible exact hz1 | with_reducible refine Bz.drew ?_)); exact hic2; exact hidd; rintro e ws ⟨rfl, hzs⟩)
              | (go_at_call 27; refine (CBO.out _ ?_).mono ?_; (repeat (first | with_reducible exact hzj | with_reducible exact hzm | with_reducible exact hzs | with_reducible exact hzc | with_reducible exact hzd | with_reducible exact hzk | with_reducible exact hzh | with_reducible exact hz1 | with_reducible refine Bz.drew ?_)); rintro e w' ⟨rfl, rfl⟩)
              | (go_at_call 28; refine (CTO.out _ ?_).mono ?_; (repeat (first | with_reducible exact hzj | with_reducible exact hzm | with_reducible exact hzs | with_reducible exact hzc | with_reducible exact hzd | with_reducible exact hzk | with_reducible exact hzh | with_reducible exact hz1 | with_reducible refine Bz.drew ?_)); rintro e w' ⟨rfl, rfl⟩)
              | (go_at_call 20; refine (CRM.out _ ?_ _ _ ?_).mono ?_; (repeat (first | with_reducible exact hzj | with_reducible exact hzm | with_reducible exact hzs | with_reducible exact hzc | with_reducible exact hzd | with_reducible exact hzk | with_reducible exact hzh | with_reducible exact hz1 | with_reducible refine Bz.drew ?_)); exact hic; rintro e wm ⟨rfl, hzm⟩)
              | (go_at_call 18; refine (CRJ.out _ ?_ _ _ ?_).mono ?_; (repeat (first | with_reducible exact hzj | with_reducible exact hzm | with_reducible exact hzs | with_reducible exact hzc | with_reducible exact hzd | with_reducible exact hzk | with_reducible exact hzh | with_reducible exact hz1 | with_reducible refine Bz.drew ?_)); exact hic; rintro e wj ⟨rfl, hzj⟩))
          all_goals
            go_wp2
            go_ret
            exact ⟨rfl, hb06.trans (hzj.1.mono hs6')⟩

end Go.Proofs.Ytogmiofmhmbhbaa
