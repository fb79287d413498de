/- The walk of LatticeHeight. -/
import Derived.Test.YtogmiofmhmbhbaaMz
import Derived.Test.YtogmiofmhmbhbaaPj
import Derived.BigQuiet
import Derived.Deep.QuietTactic
import Derived.RegionTactic
namespace Go.Proofs.Ytogmiofmhmbhbaa
open Go.RowKit

/-- block g is the ranks rs -/
def Rk (w : World) (g : Nat) (rs : List Nat) : Prop := w.heap[g]? = some (.cells (natsA rs) 48 (0, 0))
theorem Rk.cell {w : World} {g : Nat} {xs : List Nat} (h : Rk w g xs) {k : Nat} (hk : k < xs.length) : w.cell? ⟨g, k, none⟩ = some (.int .i64 (gd xs k : Nat)) := by
  rw [cell_of_row w g k _ _ (0, 0) h, gd_lt hk]
  simp [natsA, hk]
theorem Rk.set_ {w : World} {g : Nat} {xs : List Nat} (h : Rk w g xs) (k v : Nat) : Rk (w.setCell ⟨g, k, none⟩ (.int .i64 v)) g (xs.set k v) := by
  unfold Rk at h ⊢
  simp [World.setCell, Array.getElem?_modify, h, natsA, List.map_set]
theorem Rk.frozen {w : World} {g : Nat} {xs : List Nat} (h : Rk w g xs) (k : Nat) : w.frozen? ⟨g, k, none⟩ = false := frozen_of_row w g k _ _ h
theorem Rk.drawn {w w' : World} {g : Nat} {xs : List Nat} (h : Rk w g xs) (hd : Drawn w w') : Rk w' g xs := ((hd.below (B := g + 1)).block g (by omega)).trans h
theorem and7 (x : Nat) (h : x < 8) : bits .and .i64 (x : Int) 7 = (x : Int) := by
  have hp : x = 0 ∨ x = 1 ∨ x = 2 ∨ x = 3 ∨ x = 4 ∨ x = 5 ∨ x = 6 ∨ x = 7 := by omega
  rcases hp with rfl | rfl | rfl | rfl | rfl | rfl | rfl | rfl <;> decide

set_option maxRecDepth 100000 in
set_option maxHeartbeats 4000000 in
theorem height_walk (w : World) (n : Int) (m cap off : Nat) (A : Option Addr) (es : List (Int × Int)) (hA : EdgesIn w w.heap.size A off es) (hm : es.length = m) (m2 cap2 off2 : Nat) (A2' : Option Addr) (zs : List Int) (hZ : IntsIn w w.heap.size A2' off2 zs) (hm2 : zs.length = m2) :
    Calls Try.prog 7 #[.int .i64 n, .slice A m cap, .slice A2' m2 cap2] w (LawPost w) := by
  have HM := Lib.hid hm
  have HZ := Lib.hid hm2
  clear hm hm2
  by_cases h200 : 200 < m
  · go_enter Try.func7, Try.ntmps7
    go_wp2_with fail
    refine (alive_any _).mono ?_
    rintro e w1 ⟨rfl, hb1⟩
    go_wp2
    go_ret
    exact ⟨rfl, hb1⟩
  by_cases h20 : 20 < m2
  · go_enter Try.func7, Try.ntmps7
    go_wp2_with fail
    refine (alive_any _).mono ?_
    rintro e w1 ⟨rfl, hb1⟩
    go_wp2
    go_ret
    exact ⟨rfl, hb1⟩
  · go_enter Try.func7, Try.ntmps7
    go_wp2_with fail
    refine (alive_any _).mono ?_
    rintro e w1 ⟨rfl, hb1⟩
    have hs1 := hb1.size
    go_wp2_with fail
    refine (copies_any _ m cap off A es ((hA.below hb1).more hs1) HM.out (by omega)).mono ?_
    rintro e w2 ⟨v, rfl, hv, hb2⟩
    obtain ⟨A2, c2, rfl, hE⟩ := hv.edges
    have hb02 : Below w.heap.size w w2 := hb1.trans (hb2.mono hs1)
    have hs2 := hb02.size
    rw [HM.out]
    go_wp2_with fail
    refine (new_any _ n m c2 A2 es hE HM.out (by omega)).mono ?_
    rintro e w3 ⟨hb3, hcase⟩
    have hb03 : Below w.heap.size w w3 := hb02.trans (hb3.mono hs2)
    rcases hcase with ⟨_, rfl⟩ | ⟨_, _, _, rfl⟩ | ⟨_, _, _, _, rfl⟩ | ⟨hn1, hn8, hbad, hlat, h, gu, gv, hh, hu, hv, o, rfl⟩
    · go_wp2
      go_ret
      exact ⟨rfl, hb03⟩
    · go_wp2
      go_ret
      exact ⟨rfl, hb03⟩
    · go_wp2
      go_ret
      exact ⟨rfl, hb03⟩
    · obtain ⟨k, rfl⟩ := Int.eq_ofNat_of_zero_le (show 0 ≤ n by omega)
      have HRE := Lib.hid (new_latt hn1 hbad hlat).1
      have HL := Lib.hid (new_latt hn1 hbad hlat).2
      rw [Int.toNat_natCast] at HL HRE o
      obtain ⟨U, hU⟩ : ∃ U, U = reachL k es := ⟨_, rfl⟩
      have HUI : Hid (∀ a b, B U a b ↔ Leads k es a b) := Lib.hid (by rw [hU]; exact reach_iff k es HRE.out)
      rw [← hU] at HL o
      obtain ⟨D, hD⟩ : ∃ D, D = turnedL U := ⟨_, rfl⟩
      rw [← hD] at HL o
      have hk0 : 0 < k := by omega
      have hk8 : k ≤ 8 := o.n8
      have hs3 := hb03.size
      have hZ3 := hZ.below hb03
      have lo := o.lt
      clear hU hD hbad hlat hh hu hv hb3 hb02 hE hb2 hs1 hb1 hs2 HUI HRE
      have hgt : decide (0 < (m2 : Int)) = riseTo k U zs 0 := by
        show _ = decide (0 < zs.length)
        rw [HZ.out]; simp
      have HGT := Lib.hid hgt
      clear hgt
      go_wp2
      go_loopw [10, 9] (fun i s9 wr => ∃ x : Nat, x ≤ m2 ∧ i = .int .i64 x ∧ s9 = .bool (riseTo k U zs x) ∧ Below w3.heap.size w3 wr) (fun i _ _ => m2 - (intOf i).toNat)
      case atStart => exact ⟨0, Nat.zero_le _, rfl, by rw [← HGT.out]; first | rfl | simp, Below.refl _ _⟩
      case round =>
        obtain ⟨i, hi, rfl, rfl, hbi⟩ := hrel
        obtain ⟨rb, hrb⟩ : ∃ rb, rb = riseTo k U zs i := ⟨_, rfl⟩
        have HRB := Lib.hid hrb
        rw [← hrb]
        clear hrb
        have oi := o.below hbi lo.1 lo.2.1 lo.2.2
        by_cases hlti : i < m2
        · have HSS : Hid (riseTo k U zs (i + 1) = (rb && okAt k U zs i)) := Lib.hid (by rw [HRB.out]; rfl)
          obtain ⟨b, rfl, hbb, hc⟩ := (hZ3.below (w' := wr) (hbi.mono hs3)) i (by rw [HZ.out]; exact hlti)
          cases rb
          · have HS : Hid (riseTo k U zs (i + 1) = false) := Lib.hid (by rw [HSS.out]; rfl)
            go_wp2
            go_quiet (fail)
            go_wp2
            go_roundw
            case rel => exact ⟨i + 1, by omega, by go_num, by rw [HS.out], hbi.trans (Drawn.below ⟨_, rfl⟩)⟩
            case measure => simp [intOf]; omega
          · obtain ⟨v, hv⟩ : ∃ v, v = gi zs i := ⟨_, rfl⟩
            have HV := Lib.hid hv
            rw [← hv] at hc
            clear hv
            by_cases h1 : 0 ≤ v
            · by_cases h2 : v < k
              · cases i with
                | zero =>
                  rw [Nat.add_zero] at hc
                  have HS : Hid (riseTo k U zs (0 + 1) = true) := Lib.hid (by rw [HSS.out]; unfold okAt; rw [← HV.out]; simp [h1, h2])
                  have d1 : decide (0 ≤ v) = true := by simpa using h1
                  have d2 : decide (v < (k : Int)) = true := by simpa using h2
                  go_wp2
                  go_quiet (fail)
                  go_wp2
                  go_roundw
                  case rel => exact ⟨0 + 1, by omega, by go_num, by rw [HS.out], hbi.trans (Drawn.below ⟨_, rfl⟩)⟩
                  case measure => simp [intOf]; omega
                | succ i =>
                  obtain ⟨b', hb', _, hcu⟩ := (hZ3.below (w' := wr) (hbi.mono hs3)) i (by rw [HZ.out]; omega)
                  obtain rfl : b = b' := by injection hb' with hb'; injection hb'
                  obtain ⟨u, hu⟩ : ∃ u, u = gi zs i := ⟨_, rfl⟩
                  have HOK : Hid (okAt k U zs (i + 1) = (decide (u ≠ v) && mst U u v)) := Lib.hid (by
                    unfold okAt; rw [← HV.out, Nat.add_sub_cancel, ← hu]; simp [h1, h2])
                  rw [← hu] at hcu
                  clear hb' hu
                  have d1 : decide (0 ≤ v) = true := by simpa using h1
                  have d2 : decide (v < (k : Int)) = true := by simpa using h2
                  have hz : (((i : Int) + 1) == 0) = false := beq_eq_false_iff_ne.2 (by omega)
                  have hw1 : IntKind.i64.wrap ((i : Int) + 1 - 1) = (i : Int) := by rw [show (i : Int) + 1 - 1 = i by omega]; exact IntWalk.i64_in _ (by omega)
                  have hw2 : IntKind.i64.wrap (i : Int) = (i : Int) := IntWalk.i64_in _ (by omega)
                  by_cases huv : u = v
                  · have HS : Hid (riseTo k U zs (i + 1 + 1) = false) := Lib.hid (by rw [HSS.out, HOK.out]; simp [huv])
                    have d3 : (u != v) = false := by rw [huv]; simp
                    clear huv
                    go_wp2
                    go_quiet (fail)
                    go_wp2
                    go_roundw
                    case rel => exact ⟨i + 1 + 1, by omega, by go_num, by rw [HS.out], hbi.trans (Drawn.below ⟨_, rfl⟩)⟩
                    case measure => simp [intOf]; omega
                  · have d3 : (u != v) = true := by rw [bne_iff_ne]; exact huv
                    obtain ⟨q, hq⟩ : ∃ q, q = mst U u v := ⟨_, rfl⟩
                    have M1 : ∀ nq, Calls Try.prog 15 #[.pointer (some ⟨h, 0, none⟩), .int .i64 u, .int .i64 v] (wr.drewN nq) fun e w' => e = .returned (.bool q) ∧ w' = wr.drewN nq := by
                      intro nq
                      refine (most_any _ h gu gv k U D (oi.below (Drawn.below ⟨nq, rfl⟩ (B := wr.heap.size)) oi.lt.1 oi.lt.2.1 oi.lt.2.2) u v).mono ?_
                      rintro e w' ⟨he, hw⟩
                      exact ⟨by rw [hq]; exact he, hw.symm⟩
                    have H1 := Lib.hid M1
                    have HS : Hid (riseTo k U zs (i + 1 + 1) = q) := Lib.hid (by rw [HSS.out, HOK.out, hq]; simp [huv])
                    clear M1 hq huv
                    cases q
                    · go_wp2
                      go_quiet ((go_at_call 15; with_reducible exact Calls.quiet_of_same (H1.out _)))
                      go_wp2
                      go_roundw
                      case rel => exact ⟨i + 1 + 1, by omega, by go_num, by rw [HS.out], hbi.trans (Drawn.below ⟨_, rfl⟩)⟩
                      case measure => simp [intOf]; omega
                    · go_wp2
                      go_quiet ((go_at_call 15; with_reducible exact Calls.quiet_of_same (H1.out _)))
                      go_wp2
                      go_roundw
                      case rel => exact ⟨i + 1 + 1, by omega, by go_num, by rw [HS.out], hbi.trans (Drawn.below ⟨_, rfl⟩)⟩
                      case measure => simp [intOf]; omega
              · have HS : Hid (riseTo k U zs (i + 1) = false) := Lib.hid (by rw [HSS.out]; unfold okAt; rw [← HV.out]; simp [h2])
                have d1 : decide (0 ≤ v) = true := by simpa using h1
                have d2 : decide (v < (k : Int)) = false := by simpa using h2
                go_wp2
                go_quiet (fail)
                go_wp2
                go_roundw
                case rel => exact ⟨i + 1, by omega, by go_num, by rw [HS.out], hbi.trans (Drawn.below ⟨_, rfl⟩)⟩
                case measure => simp [intOf]; omega
            · have HS : Hid (riseTo k U zs (i + 1) = false) := Lib.hid (by rw [HSS.out]; unfold okAt; rw [← HV.out]; simp [h1])
              have d1 : decide (0 ≤ v) = false := by simpa using h1
              go_wp2
              go_quiet (fail)
              go_wp2
              go_roundw
              case rel => exact ⟨i + 1, by omega, by go_num, by rw [HS.out], hbi.trans (Drawn.below ⟨_, rfl⟩)⟩
              case measure => simp [intOf]; omega
        · obtain rfl : i = m2 := by omega
          have HHI := Lib.hid (height_is HL.out hk0 hk8)
          have HRL : Hid (rb = true → i ≤ heightL U D) := Lib.hid (fun e => by
            have := rises_le HL.out.pu HL.out.au HHI.out zs (by rw [HZ.out, ← HRB.out]; exact e)
            rw [HZ.out] at this
            exact this)
          obtain ⟨ht, hht⟩ : ∃ ht, ht = heightL U D := ⟨_, rfl⟩
          rw [← hht] at HRL HHI
          have HHT := Lib.hid hht
          clear hht
          have hsi := hbi.size
          have HC := Lib.hid (chain_ok HL.out.pd HL.out.ad hk8)
          cases rb
          all_goals
            first
            | (have hle := HRL.out rfl
               go_wp2_with fail
               refine (height_any _ h gu gv k U D oi).mono ?_
               rintro e w4 ⟨rfl, hb4⟩
               rw [← HHT.out]
               have hb34 : Below w3.heap.size w3 w4 := hbi.trans (hb4.mono hsi)
               clear hb4
               go_wp2_with fail)
            | (have hb34 := hbi
               obtain ⟨w4, rfl⟩ : ∃ w4, w4 = wr := ⟨_, rfl⟩
               go_wp2_with fail)
          all_goals
            have hs4 := hb34.size
            refine (chain_any _ h gu gv k U D (by exact (o.below hb34 lo.1 lo.2.1 lo.2.2).alloc _)).mono ?_
            rintro e w5 ⟨gc, cc, rfl, hgc, hown, hb5⟩
            have hR0 : Rk w5 w4.heap.size (List.replicate 8 0) := (hb5.block w4.heap.size (by simp)).trans (heap_alloc_new w4 _)
            have hb35 : Below w3.heap.size w3 w5 := (hb34.alloc hs4 _).trans (hb5.mono (by simp; omega))
            have hgg : w4.heap.size < gc := by simp at hgc; omega
            have hI := hown.ints.2
            rw [HC.out.len]
            obtain ⟨ch, hch⟩ : ∃ ch, ch = chainL D := ⟨_, rfl⟩
            rw [← hch] at hI HC
            have HI : Hid (∀ q, q < k → w5.cell? ⟨gc, q, none⟩ = some (.int .i64 (gi ch q))) := Lib.hid (fun q hq => by
              obtain ⟨b, hb, hc⟩ := hI q (by rw [HC.out.len]; exact hq)
              obtain rfl : gc = b := by injection hb with hb; injection hb
              exact hc)
            obtain ⟨g, hg⟩ : ∃ g, g = w4.heap.size := ⟨_, rfl⟩
            rw [← hg] at hR0 hgg ⊢
            have hg3 : w3.heap.size ≤ g := by omega
            have HGG := Lib.hid hgg
            clear hgc hown hb5 hI hch hg hb34 hs4 hgg
            go_wp2
            go_loopw [14, 12] (fun i s12 wr => ∃ t top : Nat, t ≤ k ∧ i = .int .i64 t ∧ s12 = .int .i64 top ∧ Hid ((rkTo U ch t).2 = top) ∧ Rk wr g (rkTo U ch t).1 ∧ Below w3.heap.size w3 wr ∧
              Hid (∀ q, q < k → wr.cell? ⟨gc, q, none⟩ = some (.int .i64 (gi ch q)))) (fun i _ _ => k - (intOf i).toNat)
            case atStart => exact ⟨0, 0, Nat.zero_le _, rfl, rfl, rfl, hR0, hb35, HI⟩
            case round =>
              obtain ⟨t, top, ht8, rfl, rfl, htop, hR, hbt, hcs⟩ := hrel
              by_cases hltt : t < k
              · have hzr := HC.out.range _ (gi_mem (show t < ch.length by rw [HC.out.len]; exact hltt))
                have hcx := hcs.out t hltt
                obtain ⟨x, hx⟩ := Int.eq_ofNat_of_zero_le hzr.1
                have hxk : x < k := by omega
                rw [hx] at hcx
                have hand := and7 x (by omega)
                have hlen := rkTo_len U ch t
                have hbnd := rkTo_le U ch t (by omega)
                have HST : Hid (rkTo U ch (t + 1) = (rkIn U ch x t ((rkTo U ch t).1.set x 1), if top < gd (rkIn U ch x t ((rkTo U ch t).1.set x 1)) x then gd (rkIn U ch x t ((rkTo U ch t).1.set x 1)) x else top)) := Lib.hid (by
                  show rkStep U ch (rkTo U ch t) t = _
                  unfold rkStep; rw [hx, htop.out]; rfl)
                obtain ⟨rs, hrs⟩ : ∃ rs, rs = (rkTo U ch t).1 := ⟨_, rfl⟩
                rw [htop.out] at hbnd
                rw [← hrs] at hR hlen hbnd HST
                have hbnd1 : Le (t * 9 + 1) (rs.set x 1) := (hbnd.1.mono (by omega)).set _ (by omega)
                have hbtop := hbnd.2
                have hcr := hR.cell (k := x) (by omega)
                have hf := hR.frozen x
                have HX := Lib.hid hx
                clear hzr hx hrs hbnd
                go_wp2
                clear hcr hf
                go_loopw [15] (fun i wl => ∃ j : Nat, j ≤ t ∧ i = .int .i64 j ∧ Rk wl g (rkIn U ch x j (rs.set x 1)) ∧ Below w3.heap.size w3 wl ∧
                  Hid (∀ q, q < k → wl.cell? ⟨gc, q, none⟩ = some (.int .i64 (gi ch q)))) (fun i _ => t - (intOf i).toNat)
                case atStart => exact ⟨0, Nat.zero_le _, rfl, by exact hR.set_ x 1, hbt.setCell hg3 _, Lib.hid (fun q hq => (World.cell?_setCell_other _ _ _ _ (fun e => by injection e; have := HGG.out; omega)).trans (hcs.out q hq))⟩
                case round =>
                  obtain ⟨j, hj, rfl, hRj, hbj, hcsj⟩ := hrel
                  by_cases hltj : j < t
                  · have hzr := HC.out.range _ (gi_mem (show j < ch.length by rw [HC.out.len]; omega))
                    have hcx := hcsj.out t hltt
                    have hcy := hcsj.out j (by omega)
                    obtain ⟨y, hy⟩ := Int.eq_ofNat_of_zero_le hzr.1
                    have hyk : y < k := by omega
                    rw [hy] at hcy
                    rw [HX.out] at hcx
                    have handy := and7 y (by omega)
                    have HSJ : Hid (rkIn U ch x (j + 1) (rs.set x 1) = rkS U x (rkIn U ch x j (rs.set x 1)) y) := Lib.hid (by
                      show rkS U x (rkIn U ch x j (rs.set x 1)) (gi ch j).toNat = _
                      rw [hy]; rfl)
                    have hlen2 : (rkIn U ch x j (rs.set x 1)).length = 8 := by rw [rkIn_len]; simpa using hlen
                    have hb2 := rkIn_le U ch x j hbnd1
                    obtain ⟨rt, hrt⟩ : ∃ rt, rt = rkIn U ch x j (rs.set x 1) := ⟨_, rfl⟩
                    rw [← hrt] at hRj HSJ hlen2 hb2
                    have hrx := hRj.cell (k := x) (by omega)
                    have hry := hRj.cell (k := y) (by omega)
                    have hf := hRj.frozen x
                    have hbx := hb2.gd x
                    have hby := hb2.gd y
                    obtain ⟨p, hp⟩ : ∃ p, p = (gd U y).testBit x := ⟨_, rfl⟩
                    have oj := o.below hbj lo.1 lo.2.1 lo.2.2
                    have M1 : ∀ nq, Calls Try.prog 15 #[.pointer (some ⟨h, 0, none⟩), .int .i64 y, .int .i64 x] (wr.drewN nq) fun e w' => e = .returned (.bool p) ∧ w' = wr.drewN nq := by
                      intro nq
                      refine (most_in _ h gu gv k U D (oj.below (Drawn.below ⟨nq, rfl⟩ (B := wr.heap.size)) oj.lt.1 oj.lt.2.1 oj.lt.2.2) y x hyk hxk).mono ?_
                      rintro e w' ⟨he, hw⟩
                      exact ⟨by rw [hp]; exact he, hw.symm⟩
                    have H1 := Lib.hid M1
                    have HP := Lib.hid hp
                    clear M1 hp hzr hy hrt
                    cases p
                    · have HB : Hid (rkIn U ch x (j + 1) (rs.set x 1) = rt) := Lib.hid (HSJ.out.trans (if_neg (fun e => by rw [← HP.out] at e; exact absurd e.1 (by simp))))
                      go_wp2
                      go_quiet ((go_at_call 15; with_reducible exact Calls.quiet_of_same (H1.out _)))
                      go_wp2
                      go_roundw
                      case rel => exact ⟨j + 1, by omega, by go_num, by rw [HB.out]; exact hRj.drawn ⟨_, rfl⟩, hbj.trans (Drawn.below ⟨_, rfl⟩), Lib.hid (fun q hq => hcsj.out q hq)⟩
                      case measure => simp [intOf]; omega
                    · by_cases hle : gd rt x ≤ gd rt y
                      · have HB : Hid (rkIn U ch x (j + 1) (rs.set x 1) = rt.set x (gd rt y + 1)) := Lib.hid (HSJ.out.trans (if_pos ⟨HP.out.symm, hle⟩))
                        have dl : decide (gd rt x ≤ gd rt y) = true := by simpa using hle
                        go_wp2
                        go_quiet ((go_at_call 15; with_reducible exact Calls.quiet_of_same (H1.out _)))
                        generalize hwq : wr.drewN _ = wq
                        have hd : Drawn wr wq := ⟨_, hwq.symm⟩
                        have hRq := hRj.drawn hd
                        have hbq := hbj.trans hd.below
                        have hcq : Hid (∀ q, q < k → wq.cell? ⟨gc, q, none⟩ = some (.int .i64 (gi ch q))) := Lib.hid (fun q hq => by
                          rw [← hcsj.out q hq]; exact (hd.below (B := gc + 1)).cell (p := ⟨gc, q, none⟩) (by simp))
                        have hcxq := ((hd.below (B := gc + 1)).cell (p := ⟨gc, t, none⟩) (by simp)).trans hcx
                        have hcyq := ((hd.below (B := gc + 1)).cell (p := ⟨gc, j, none⟩) (by simp)).trans hcy
                        have hrxq := hRq.cell (k := x) (by omega)
                        have hryq := hRq.cell (k := y) (by omega)
                        have hfq := hRq.frozen x
                        clear hwq hcx hcy hrx hry hf hd hRj hbj hcsj oj H1
                        go_wp2
                        go_region
                        all_goals
                          go_wp2
                          go_roundw
                          case rel => exact ⟨j + 1, by omega, by go_num, by rw [HB.out]; exact (hRq.set_ x (gd rt y + 1)), (hbq.setCell hg3 _).drew, Lib.hid (fun q hq => (World.cell?_setCell_other _ _ _ _ (fun e => by injection e; have := HGG.out; omega)).trans (hcq.out q hq))⟩
                          case measure => simp [intOf]; omega
                      · have HB : Hid (rkIn U ch x (j + 1) (rs.set x 1) = rt) := Lib.hid (HSJ.out.trans (if_neg (fun e => hle e.2)))
                        have dl : decide (gd rt x ≤ gd rt y) = false := by simpa using hle
                        go_wp2
                        go_quiet ((go_at_call 15; with_reducible exact Calls.quiet_of_same (H1.out _)))
                        go_wp2
                        go_roundw
                        case rel => exact ⟨j + 1, by omega, by go_num, by rw [HB.out]; exact hRj.drawn ⟨_, rfl⟩, hbj.trans (Drawn.below ⟨_, rfl⟩), Lib.hid (fun q hq => hcsj.out q hq)⟩
                        case measure => simp [intOf]; omega
                  · obtain rfl : j = t := by omega
                    have hcx := hcsj.out j hltt
                    rw [HX.out] at hcx
                    have hlen2 : (rkIn U ch x j (rs.set x 1)).length = 8 := by rw [rkIn_len]; simpa using hlen
                    obtain ⟨rt, hrt⟩ : ∃ rt, rt = rkIn U ch x j (rs.set x 1) := ⟨_, rfl⟩
                    rw [← hrt] at hRj HST hlen2
                    have hrx := hRj.cell (k := x) (by omega)
                    clear hrt hlen2
                    by_cases hgt : top < gd rt x
                    · have HF : Hid (rkTo U ch (j + 1) = (rt, gd rt x)) := Lib.hid (by rw [HST.out, if_pos hgt])
                      go_wp2
                      go_roundw
                      case rel => exact ⟨j + 1, gd rt x, by omega, by go_num, rfl, Lib.hid (by rw [HF.out]), by rw [HF.out]; exact hRj, hbj, hcsj⟩
                      case measure => simp [intOf]; omega
                    · have HF : Hid (rkTo U ch (j + 1) = (rt, top)) := Lib.hid (by rw [HST.out, if_neg hgt])
                      go_wp2
                      go_roundw
                      case rel => exact ⟨j + 1, top, by omega, by go_num, rfl, Lib.hid (by rw [HF.out]), by rw [HF.out]; exact hRj, hbj, hcsj⟩
                      case measure => simp [intOf]; omega
              · obtain rfl : t = k := by omega
                have hfin := rk_final HL.out hk0 hk8 HC.out
                rw [HC.out.len, htop.out] at hfin
                obtain rfl : ht = top := height_one HHI.out hfin.1
                have hlen := rkTo_len U ch t
                obtain ⟨rs, hrs⟩ : ∃ rs, rs = (rkTo U ch t).1 := ⟨_, rfl⟩
                rw [← hrs] at hR hlen hfin
                obtain ⟨z, hz⟩ : ∃ z, z = Bt D := ⟨_, rfl⟩
                have hzk : z < t := by rw [hz]; exact (HL.out.turn.Bt_spec hk0).2.1
                rw [← hz] at hfin
                have hand := and7 z (by omega)
                have HZT := Lib.hid hz
                have hst := hbt.size
                have HFIN := Lib.hid hfin.2
                clear hfin hrs hz
                go_wp2_with fail
                refine (height_any _ h gu gv t U D (o.below hbt lo.1 lo.2.1 lo.2.2)).mono ?_
                rintro e w6 ⟨rfl, hb6⟩
                rw [← HHT.out]
                have hb36 : Below w3.heap.size w3 w6 := hbt.trans (hb6.mono hst)
                have hRlt : g < wr.heap.size := by
                  rcases Nat.lt_or_ge g wr.heap.size with hlt | hge
                  · exact hlt
                  · unfold Rk at hR; rw [Array.getElem?_eq_none hge] at hR; cases hR
                have hR6 : Rk w6 g rs := (hb6.block g hRlt).trans hR
                have hcz := hR6.cell (k := z) (by omega)
                rw [HFIN.out] at hcz
                clear hRlt hR hbt hb6
                go_wp2_with fail
                refine (top_two _ h gu gv t U D (o.below hb36 lo.1 lo.2.1 lo.2.2) HL.out hk0).mono ?_
                rintro e w' ⟨rfl, rfl⟩
                rw [← HZT.out]
                go_wp2
                go_ret
                exact ⟨rfl, hb03.trans (hb36.mono hs3)⟩

end Go.Proofs.Ytogmiofmhmbhbaa
