/- The walk of LatticeLists. -/
import Derived.Test.YtogmiofmhmbhbaaNg
namespace Go.Proofs.Ytogmiofmhmbhbaa
open Go.RowKit

theorem lev_levL {n : Nat} {xs : List Nat} (p : Pre n xs) (zs : List Int) : lev xs (levL n zs) = lev xs zs := by
  have : common xs (levL n zs) = common xs zs := by
    apply Nat.eq_of_testBit_eq
    intro b
    rw [Bool.eq_iff_iff, common_bit, common_bit]
    constructor
    · rintro ⟨h1, h2⟩
      refine ⟨h1, fun z hz h3 h4 => ?_⟩
      rw [p.len] at h4
      exact h2 z (List.mem_filter.2 ⟨hz, by unfold isLev; simp [h3, h4]⟩) h3 (by rw [p.len]; exact h4)
    · rintro ⟨h1, h2⟩
      exact ⟨h1, fun z hz => h2 z (List.mem_filter.1 hz).1⟩
  unfold lev
  rw [this]

set_option maxHeartbeats 400000 in
theorem sameints_in (w : World) (m c d off : Nat) (A D : Option Addr) (zs : List Int) (hA : Ints w A zs) (hD : IntsIn w w.heap.size D off zs) (hm : zs.length = m) (hm2 : m ≤ 4611686018427387904) :
    Calls Try.prog 24 #[.slice A m c, .slice D m d] w fun e w' => e = .returned (.bool true) ∧ Drawn w w' := by
  have HM := Lib.hid hm
  clear hm
  go_enter Try.func24, Try.ntmps24
  go_wp2
  go_loopw [5] (fun i wr => ∃ k : Nat, k ≤ m ∧ i = .int .i64 k ∧ Drawn w wr) (fun i _ => m - (intOf i).toNat)
  case atStart => exact ⟨0, Nat.zero_le _, rfl, Drawn.refl w⟩
  case round =>
    obtain ⟨k, hk, rfl, hq⟩ := hrel
    by_cases hlt : k < m
    · obtain ⟨b, rfl, hc⟩ := hA k (by rw [HM.out]; exact hlt)
      obtain ⟨b', rfl, _, hc'⟩ := hD k (by rw [HM.out]; exact hlt)
      have hc1 := (hq.cell _).trans hc
      have hc2 := (hq.cell _).trans hc'
      clear hc hc'
      go_wp2
      go_region
      all_goals
        go_wp2
        go_roundw
        case rel => exact ⟨k + 1, by omega, by go_num, hq.drew⟩
        case measure => simp [intOf]; omega
    · go_wp2
      go_ret
      exact ⟨rfl, hq⟩

theorem rnew_out {w w' : World} {n : Int} {es : List (Int × Int)} {e : Ending} (h : RNewPost w n es e w') (hn : ¬ (1 ≤ n ∧ n ≤ 8)) : e = .returned (.tuple #[.agg #[.slice none 0 0], .int .i64 22]) := by
  rcases h.2 with ⟨_, x⟩ | ⟨h1, h2, _⟩ | ⟨h1, h2, _⟩ | ⟨h1, h2, _⟩
  · exact x
  · exact absurd ⟨h1, h2⟩ hn
  · exact absurd ⟨h1, h2⟩ hn
  · exact absurd ⟨h1, h2⟩ hn
theorem rnew_wrong {w w' : World} {n : Int} {es : List (Int × Int)} {e : Ending} (h : RNewPost w n es e w') (h1 : 1 ≤ n) (h8 : n ≤ 8) (hb : badEs n es = true) : e = .returned (.tuple #[.agg #[.slice none 0 0], .int .i64 30]) := by
  rcases h.2 with ⟨x, _⟩ | ⟨_, _, _, x⟩ | ⟨_, _, x, _⟩ | ⟨_, _, x, _⟩
  · exact absurd ⟨h1, h8⟩ x
  · exact x
  · rw [hb] at x; cases x
  · rw [hb] at x; cases x
theorem rnew_no {w w' : World} {n : Int} {es : List (Int × Int)} {e : Ending} (h : RNewPost w n es e w') (h1 : 1 ≤ n) (h8 : n ≤ 8) (hb : badEs n es = false) (hl : latB (reachL n.toNat es) (turnedL (reachL n.toNat es)) = false) : e = .returned (.tuple #[.agg #[.slice none 0 0], .int .i64 31]) := by
  rcases h.2 with ⟨x, _⟩ | ⟨_, _, x, _⟩ | ⟨_, _, _, _, x⟩ | ⟨_, _, _, x, _⟩
  · exact absurd ⟨h1, h8⟩ x
  · rw [hb] at x; cases x
  · exact x
  · rw [hl] at x; cases x
theorem rnew_yes {w w' : World} {n : Int} {es : List (Int × Int)} {e : Ending} (h : RNewPost w n es e w') (h1 : 1 ≤ n) (h8 : n ≤ 8) (hb : badEs n es = false) (hl : latB (reachL n.toNat es) (turnedL (reachL n.toNat es)) = true) :
    ∃ v, MatAt w' w'.heap.size n.toNat v (fCl n.toNat es) ∧ e = .returned (.tuple #[.agg #[v], .int .i64 0]) := by
  rcases h.2 with ⟨x, _⟩ | ⟨_, _, x, _⟩ | ⟨_, _, _, x, _⟩ | ⟨_, _, _, _, x⟩
  · exact absurd ⟨h1, h8⟩ x
  · rw [hb] at x; cases x
  · rw [hl] at x; cases x
  · exact x

set_option maxRecDepth 100000 in
set_option maxHeartbeats 4000000 in
theorem lists_walk (w : World) (n : Int) (m cap off : Nat) (A : Option Addr) (es : List (Int × Int)) (hA : EdgesIn w w.heap.size A off es) (hm : es.length = m) (m2 cap2 off2 : Nat) (A2' : Option Addr) (zs : List Int) (hZ : IntsIn w w.heap.size A2' off2 zs) (hm2 : zs.length = m2) :
    Calls Try.prog 4 #[.int .i64 n, .slice A m cap, .slice A2' m2 cap2] w (LawPost w) := by
  have HM := Lib.hid hm
  have HZ := Lib.hid hm2
  clear hm hm2
  by_cases h200 : 200 < m
  · go_enter Try.func4, Try.ntmps4
    go_wp2_with fail
    refine (alive_any _).mono ?_
    rintro e w1 ⟨rfl, hb1⟩
    go_wp2
    go_ret
    exact ⟨rfl, hb1⟩
  by_cases h20 : 200 < m2
  · go_enter Try.func4, Try.ntmps4
    go_wp2_with fail
    refine (alive_any _).mono ?_
    rintro e w1 ⟨rfl, hb1⟩
    go_wp2
    go_ret
    exact ⟨rfl, hb1⟩
  · go_enter Try.func4, Try.ntmps4
    go_wp2_with fail
    refine (alive_any _).mono ?_
    rintro e w1 ⟨rfl, hb1⟩
    have hs1 := hb1.size
    go_wp2_with fail
    refine (copies_any _ m cap off A es ((hA.below hb1).more hs1) HM.out (by omega)).mono ?_
    rintro e w2 ⟨v, rfl, hv, hb2⟩
    obtain ⟨A2, c2, rfl, hE⟩ := hv.edges
    have hb02 : Below w.heap.size w w2 := hb1.trans (hb2.mono hs1)
    have hs2 := hb02.size
    rw [HM.out]
    go_wp2_with fail
    refine (new_any _ n m c2 A2 es hE HM.out (by omega)).mono ?_
    rintro e w3 ⟨hb3, hcase⟩
    have hb03 : Below w.heap.size w w3 := hb02.trans (hb3.mono hs2)
    have hs3 := hb03.size
    have HR : Hid (∀ e w', RNewPost w3 n es e w' → RNewPost w3 n es e w') := Lib.hid (fun _ _ h => h)
    rcases hcase with ⟨hno, rfl⟩ | ⟨h1, h8, hbad, rfl⟩ | ⟨h1, h8, hbad, hlat, rfl⟩ | ⟨hn1, hn8, hbad, hlat, h, gu, gv, hh, hu, hv, o, rfl⟩
    · go_wp2_with fail
      refine (rnew_any _ n m cap off A es ((hA.below hb03).more hs3) HM.out (by omega)).mono ?_
      rintro e w4 hp4
      obtain rfl := rnew_out hp4 hno
      have hb4 := hp4.1
      clear hp4
      go_wp2
      go_ret
      exact ⟨rfl, (hb03.trans (hb4.mono hs3)).alloc (by have := hb4.size; omega) _⟩
    · go_wp2_with fail
      refine (rnew_any _ n m cap off A es ((hA.below hb03).more hs3) HM.out (by omega)).mono ?_
      rintro e w4 hp4
      obtain rfl := rnew_wrong hp4 h1 h8 hbad
      have hb4 := hp4.1
      clear hp4
      go_wp2
      go_ret
      exact ⟨rfl, (hb03.trans (hb4.mono hs3)).alloc (by have := hb4.size; omega) _⟩
    · go_wp2_with fail
      refine (rnew_any _ n m cap off A es ((hA.below hb03).more hs3) HM.out (by omega)).mono ?_
      rintro e w4 hp4
      obtain rfl := rnew_no hp4 h1 h8 hbad hlat
      have hb4 := hp4.1
      clear hp4
      go_wp2
      go_ret
      exact ⟨rfl, (hb03.trans (hb4.mono hs3)).alloc (by have := hb4.size; omega) _⟩
    · have HBAD := Lib.hid hbad
      have HLAT := Lib.hid hlat
      have HLA := Lib.hid (new_latt hn1 hbad hlat).2
      have HRE := Lib.hid (new_latt hn1 hbad hlat).1
      clear hbad hlat
      go_wp2_with fail
      refine (rnew_any _ n m cap off A es ((hA.below hb03).more hs3) HM.out (by omega)).mono ?_
      rintro e w4 hp4
      obtain ⟨vm, hM4, rfl⟩ := rnew_yes hp4 hn1 hn8 HBAD.out HLAT.out
      have hb4 := hp4.1
      obtain ⟨nn, rfl⟩ := Int.eq_ofNat_of_zero_le (show 0 ≤ n by omega)
      rw [Int.toNat_natCast] at hM4 HLA HRE o
      obtain ⟨go, co, G, C, rfl, hgo, hMc⟩ := hM4
      have hM4 : MatAt w4 w4.heap.size nn (.slice (some ⟨go, 0, none⟩) nn co) (fCl nn es) := ⟨go, co, G, C, rfl, hgo, hMc⟩
      have hsay := fCl_says nn es HRE.out
      obtain ⟨f, hf⟩ : ∃ f, f = fCl nn es := ⟨_, rfl⟩
      obtain ⟨U, hU⟩ : ∃ U, U = reachL nn es := ⟨_, rfl⟩
      rw [← hf] at hM4 hsay
      rw [← hU] at hsay HLA o
      obtain ⟨D, hD⟩ : ∃ D, D = turnedL U := ⟨_, rfl⟩
      have hsayD : Says nn D (fun a b => f b a) := by rw [hD]; exact says_turned HLA.out.pu hsay
      rw [← hD] at HLA o
      have hnn : 0 < nn := by omega
      have hn8' := o.n8
      have EJ : Hid (leastF nn f (levL nn zs) = lev U zs) := Lib.hid (by
        rw [leastF_join HLA.out.pu HLA.out.au hsay (levL_range nn zs) (HLA.out.joins hnn _), lev_levL HLA.out.pu])
      have EM : Hid (leastF nn (fun a b => f b a) (levL nn zs) = lev D zs) := Lib.hid (by
        rw [leastF_join HLA.out.pd HLA.out.ad hsayD (levL_range nn zs) (HLA.out.turn.joins hnn _), lev_levL HLA.out.pd])
      have hb04 : Below w.heap.size w w4 := hb03.trans (hb4.mono hs3)
      have hs4 := hb04.size
      have o4 := o.below hb4 o.lt.1 o.lt.2.1 o.lt.2.2
      obtain ⟨g9, hg9⟩ : ∃ g9, g9 = w4.heap.size := ⟨_, rfl⟩
      obtain ⟨w5, hw5⟩ : ∃ w5, w5 = w4.alloc (.cells #[.slice (some ⟨go, 0, none⟩) nn co] 31) := ⟨_, rfl⟩
      have hb45 : Below g9 w4 w5 := by rw [hw5, hg9]; exact (Below.refl _ _).alloc (Nat.le_refl _) _
      have e9 : w5.heap[g9]? = some (.cells #[.slice (some ⟨go, 0, none⟩) nn co] 31 (0, 0)) := by rw [hw5, hg9]; exact heap_alloc_new w4 _
      have hs5 : w5.heap.size = g9 + 1 := by rw [hw5, hg9]; simp
      have o5 := o4.below hb45 (by rw [hg9]; exact o4.lt.1) (by rw [hg9]; exact o4.lt.2.1) (by rw [hg9]; exact o4.lt.2.2)
      have hM5 : MatAt w5 w5.heap.size nn (.slice (some ⟨go, 0, none⟩) nn co) f := (hM4.below (by rw [← hg9]; exact hb45)).more (by omega)
      have hb05 : Below w.heap.size w w5 := hb04.trans (hb45.mono (by omega))
      have HW5 := Lib.hid hw5
      have HG9 := Lib.hid hg9
      have HM5 := Lib.hid hM5
      have hs5' := hb05.size
      have hZ5 := (hZ.below hb05)
      clear hw5 hg9 hM4 hM5 hMc hf hU hD hsay hsayD hp4 hgo hh hu hv o o4 hs4 hb4
      go_wp2_with fail
      rw [← HW5.out, ← HG9.out]
      refine (copyints_any w5 m2 cap2 off2 A2' zs (fun k hk => by
        obtain ⟨b, hb, hlt, hc⟩ := hZ5 k hk
        exact ⟨b, hb, Nat.lt_of_lt_of_le hlt hs5', hc⟩) HZ.out (by omega)).mono ?_
      rintro e w6 ⟨A6, c6, rfl, hown6, hb56⟩
      have hI6 := hown6.ints.2
      have hs6 := hb56.size
      have o6 := o5.below hb56 o5.lt.1 o5.lt.2.1 o5.lt.2.2
      have hM6 := (HM5.out.below hb56).more hs6
      have hb06 : Below w.heap.size w w6 := hb05.trans (hb56.mono hs5')
      have hs6' := hb06.size
      have q9 := cell_of_row w6 g9 0 _ _ (0, 0) ((hb56.block g9 (by omega)).trans e9)
      simp at q9
      have hg96 : g9 < w6.heap.size := by omega
      have hZ6 := hZ.below hb06
      have l6 := o6.lt
      rw [HZ.out]
      have HJ : Hid (∀ wx, Below w6.heap.size w6 wx → Calls Try.prog 17 #[.pointer (some ⟨h, 0, none⟩), .slice A6 m2 c6] wx (fun e w' => e = .returned (.int .i64 (lev U zs)) ∧ wx = w')) := Lib.hid (fun wx hx =>
        join_any wx h gu gv nn U D (o6.below hx l6.1 l6.2.1 l6.2.2) zs A6 m2 c6 (hI6.below hx) HZ.out (by omega))
      have HME : Hid (∀ wx, Below w6.heap.size w6 wx → Calls Try.prog 19 #[.pointer (some ⟨h, 0, none⟩), .slice A6 m2 c6] wx (fun e w' => e = .returned (.int .i64 (lev D zs)) ∧ wx = w')) := Lib.hid (fun wx hx =>
        meet_any wx h gu gv nn U D (o6.below hx l6.1 l6.2.1 l6.2.2) zs A6 m2 c6 (hI6.below hx) HZ.out (by omega))
      have hZx : ∀ wx, Below w6.heap.size w6 wx → IntsIn wx wx.heap.size A2' off2 zs := fun wx hx k hk => by
        obtain ⟨b, hb, hlt, hc⟩ := hZ6 k hk
        exact ⟨b, hb, by have := hx.size; omega, (hx.cell (p := ⟨b, off2 + k, none⟩) (by simp; omega)).trans hc⟩
      have HRJ : Hid (∀ wx, Below w6.heap.size w6 wx → Calls Try.prog 18 #[.agg #[.slice (some ⟨go, 0, none⟩) nn co], .slice A2' m2 cap2] wx (fun e w' => e = .returned (.int .i64 (lev U zs)) ∧ Below w6.heap.size w6 w')) := Lib.hid (fun wx hx =>
        (rjoin_any wx nn m2 cap2 off2 _ f A2' zs ((hM6.below hx).more hx.size) (hZx wx hx) HZ.out (by omega) hn8').mono fun e w' ⟨he, hb⟩ => ⟨by rw [← EJ.out]; exact he, hx.trans (hb.mono hx.size)⟩)
      have HRM : Hid (∀ wx, Below w6.heap.size w6 wx → Calls Try.prog 20 #[.agg #[.slice (some ⟨go, 0, none⟩) nn co], .slice A2' m2 cap2] wx (fun e w' => e = .returned (.int .i64 (lev D zs)) ∧ Below w6.heap.size w6 w')) := Lib.hid (fun wx hx =>
        (rmeet_any wx nn m2 cap2 off2 _ f A2' zs ((hM6.below hx).more hx.size) (hZx wx hx) HZ.out (by omega) hnn hn8').mono fun e w' ⟨he, hb⟩ => ⟨by rw [← EM.out]; exact he, hx.trans (hb.mono hx.size)⟩)
      have HSI : Hid (∀ wx, Below w6.heap.size w6 wx → Calls Try.prog 24 #[.slice A6 m2 c6, .slice A2' m2 cap2] wx (fun e w' => e = .returned (.bool true) ∧ Below w6.heap.size w6 w')) := Lib.hid (fun wx hx =>
        (sameints_in wx m2 c6 cap2 off2 A6 A2' zs (hI6.below hx) (hZx wx hx) HZ.out (by omega)).mono fun e w' ⟨he, hd⟩ => ⟨he, hx.trans hd.below⟩)
      clear hI6 hM6 hZ6 hZx hown6 hb56 e9 hZ5 hb45 o5 o6 l6
      go_wp2
      go_region_held3 (fun w' => w'.cell? ⟨g9, 0, none⟩ = some (.slice (some ⟨go, 0, none⟩) nn co)) (first | go_keep | exact hkj | exact hkm | exact hks)
        (first
          | (go_at_call 17; refine (HJ.out _ ?_).mono ?_; (repeat (first | exact hbm | exact hbj | exact Below.refl _ _ | refine Below.drew ?_)); rintro e w' ⟨rfl, rfl⟩)
          | (go_at_call 19; refine (HME.out _ ?_).mono ?_; (repeat (first | exact hbm | exact hbj | exact Below.refl _ _ | refine Below.drew ?_)); rintro e w' ⟨rfl, rfl⟩)
          | (go_at_call 18; refine (HRJ.out _ ?_).mono ?_; (repeat (first | exact hbm | exact hbj | exact Below.refl _ _ | refine Below.drew ?_)); rintro e wj ⟨rfl, hbj⟩; have hkj := (hbj.cell (p := ⟨g9, 0, none⟩) hg96).trans q9)
          | (go_at_call 20; refine (HRM.out _ ?_).mono ?_; (repeat (first | exact hbm | exact hbj | exact Below.refl _ _ | refine Below.drew ?_)); rintro e wm ⟨rfl, hbm⟩; have hkm := (hbm.cell (p := ⟨g9, 0, none⟩) hg96).trans q9)
          | (go_at_call 24; refine (HSI.out _ ?_).mono ?_; (repeat (first | exact hbm | exact hbj | exact Below.refl _ _ | refine Below.drew ?_)); rintro e ws ⟨rfl, hbs⟩; have hks := (hbs.cell (p := ⟨g9, 0, none⟩) hg96).trans q9))
      all_goals
        go_wp2
        go_ret
        exact ⟨rfl, hb06.trans (hbs.mono hs6')⟩

end Go.Proofs.Ytogmiofmhmbhbaa
