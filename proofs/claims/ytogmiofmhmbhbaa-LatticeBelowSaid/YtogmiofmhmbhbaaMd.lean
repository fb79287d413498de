/- The walk of LatticeBelow. -/
import Derived.Test.YtogmiofmhmbhbaaMz
import Derived.Test.YtogmiofmhmbhbaaPi
import Derived.Deep.Cut
import Derived.Deep.DeepCutAuto
namespace Go.Proofs.Ytogmiofmhmbhbaa
open Go.RowKit

def boolsA (ss : List Bool) : Array Value := (ss.map Value.bool).toArray
/-- block g is the marks ss -/
def Bools (w : World) (g : Nat) (ss : List Bool) : Prop := w.heap[g]? = some (.cells (boolsA ss) 46 (0, 0))
theorem Bools.cell {w : World} {g : Nat} {ss : List Bool} (h : Bools w g ss) {k : Nat} (hk : k < ss.length) : w.cell? ⟨g, k, none⟩ = some (.bool (gb ss k)) := by
  rw [cell_of_row w g k _ _ (0, 0) h, gb_lt hk]
  simp [boolsA, hk]
theorem Bools.set_ {w : World} {g : Nat} {ss : List Bool} (h : Bools w g ss) (k : Nat) (v : Bool) : Bools (w.setCell ⟨g, k, none⟩ (.bool v)) g (ss.set k v) := by
  unfold Bools at h ⊢
  simp [World.setCell, Array.getElem?_modify, h, boolsA, List.map_set]
theorem Bools.frozen {w : World} {g : Nat} {ss : List Bool} (h : Bools w g ss) (k : Nat) : w.frozen? ⟨g, k, none⟩ = false := frozen_of_row w g k _ _ h
theorem Bools.below {w w' : World} {g B : Nat} {ss : List Bool} (h : Bools w g ss) (hb : Below B w w') (hg : g < B) : Bools w' g ss := (hb.block g hg).trans h
theorem Bools.lt {w : World} {g : Nat} {ss : List Bool} (h : Bools w g ss) : g < w.heap.size := by
  rcases Nat.lt_or_ge g w.heap.size with hlt | hge
  · exact hlt
  · unfold Bools at h; rw [Array.getElem?_eq_none hge] at h; cases h

theorem eight_get (x : Nat) (h : x < 8) : ([Value.bool false, Value.bool false, Value.bool false, Value.bool false, Value.bool false, Value.bool false, Value.bool false, Value.bool false] : List Value)[x]? = some (.bool false) := by
  have hp : x = 0 ∨ x = 1 ∨ x = 2 ∨ x = 3 ∨ x = 4 ∨ x = 5 ∨ x = 6 ∨ x = 7 := by omega
  rcases hp with rfl | rfl | rfl | rfl | rfl | rfl | rfl | rfl <;> rfl
theorem fl0_cells (x : Nat) : ([Value.bool false, Value.bool false, Value.bool false, Value.bool false, Value.bool false, Value.bool false, Value.bool false, Value.bool false].set x (Value.bool true)).toArray = boolsA (fl0 x) := by
  unfold boolsA fl0
  rw [List.map_set]
  rfl

set_option maxRecDepth 100000 in
set_option maxHeartbeats 4000000 in
theorem below_walk (w : World) (n : Int) (m cap off : Nat) (A : Option Addr) (es : List (Int × Int)) (hA : EdgesIn w w.heap.size A off es) (hm : es.length = m) :
    Calls Try.prog 6 #[.int .i64 n, .slice A m cap] w (LawPost w) := by
  have HM := Lib.hid hm
  clear hm
  by_cases h200 : 200 < m
  · go_enter Try.func6, Try.ntmps6
    go_wp2_with fail
    refine (alive_any _).mono ?_
    rintro e w1 ⟨rfl, hb1⟩
    go_wp2
    go_ret
    exact ⟨rfl, hb1⟩
  · go_enter Try.func6, Try.ntmps6
    go_wp2_with fail
    refine (alive_any _).mono ?_
    rintro e w1 ⟨rfl, hb1⟩
    have hs1 := hb1.size
    go_wp2_with fail
    refine (copies_any _ m cap off A es ((hA.below hb1).more hs1) HM.out (by omega)).mono ?_
    rintro e w2 ⟨v, rfl, hv, hb2⟩
    obtain ⟨A2, c2, rfl, hE⟩ := hv.edges
    have hb02 : Below w.heap.size w w2 := hb1.trans (hb2.mono hs1)
    have hs2 := hb02.size
    rw [HM.out]
    go_wp2_with fail
    refine (new_any _ n m c2 A2 es hE HM.out (by omega)).mono ?_
    rintro e w3 ⟨hb3, hcase⟩
    have hb03 : Below w.heap.size w w3 := hb02.trans (hb3.mono hs2)
    rcases hcase with ⟨_, rfl⟩ | ⟨_, _, _, rfl⟩ | ⟨_, _, _, _, rfl⟩ | ⟨hn1, hn8, hbad, hlat, h, gu, gv, hh, hu, hv, o, rfl⟩
    · go_wp2
      go_ret
      exact ⟨rfl, hb03⟩
    · go_wp2
      go_ret
      exact ⟨rfl, hb03⟩
    · go_wp2
      go_ret
      exact ⟨rfl, hb03⟩
    · obtain ⟨k, rfl⟩ := Int.eq_ofNat_of_zero_le (show 0 ≤ n by omega)
      have HRE := Lib.hid (new_latt hn1 hbad hlat).1
      have HL := Lib.hid (new_latt hn1 hbad hlat).2
      rw [Int.toNat_natCast] at HL HRE o
      obtain ⟨U, hU⟩ : ∃ U, U = reachL k es := ⟨_, rfl⟩
      have HUI : Hid (∀ a b, B U a b ↔ Leads k es a b) := Lib.hid (by rw [hU]; exact reach_iff k es HRE.out)
      rw [← hU] at HL o
      obtain ⟨D, hD⟩ : ∃ D, D = turnedL U := ⟨_, rfl⟩
      rw [← hD] at HL o
      have hk0 : 0 < k := by omega
      have hk8 : k ≤ 8 := o.n8
      have hs3 := hb03.size
      have hA3 := hA.below hb03
      have lo := o.lt
      clear hU hD hbad hlat hh hu hv hb3 hb02 hE hb2 hs1 hb1 hs2
      go_wp2
      go_loopw [7] (fun i wr => ∃ x : Nat, x ≤ k ∧ i = .int .i64 x ∧ Below w3.heap.size w3 wr) (fun i _ => k - (intOf i).toNat)
      case atStart => exact ⟨0, Nat.zero_le _, rfl, Below.refl _ _⟩
      case round =>
        obtain ⟨x, hx, rfl, hbx⟩ := hrel
        by_cases hltx : x < k
        · have hsx := hbx.size
          have h8x := eight_get x (by omega)
          go_wp2
          clear h8x
          rw [fl0_cells x]
          obtain ⟨g, hg⟩ : ∃ g, g = wr.heap.size := ⟨_, rfl⟩
          have HG := Lib.hid hg
          have hB0 : Bools (wr.alloc (.cells (boolsA (fl0 x)) 46)) g (fl0 x) := by rw [hg]; exact heap_alloc_new wr _
          have hb0 : Below w3.heap.size w3 (wr.alloc (.cells (boolsA (fl0 x)) 46)) := hbx.alloc hsx _
          have hg3 : w3.heap.size ≤ g := by rw [hg]; exact hsx
          rw [← hg]
          clear hg
          go_loopw [9] (fun i wq => ∃ r : Nat, r ≤ k ∧ i = .int .i64 r ∧ Bools wq g (flR es (fl0 x) r) ∧ Below w3.heap.size w3 wq) (fun i _ => k - (intOf i).toNat)
          case atStart => exact ⟨0, Nat.zero_le _, rfl, hB0, hb0⟩
          case round =>
            obtain ⟨r, hr, rfl, hBr, hbr⟩ := hrel
            by_cases hltr : r < k
            · go_wp2
              go_loopw [10] (fun i wq => ∃ j : Nat, j ≤ m ∧ i = .int .i64 j ∧ Bools wq g (flE (es.take j) (flR es (fl0 x) r)) ∧ Below w3.heap.size w3 wq) (fun i _ => m - (intOf i).toNat)
              case atStart => exact ⟨0, Nat.zero_le _, rfl, hBr, hbr⟩
              case round =>
                obtain ⟨j, hj, rfl, hBj, hbj⟩ := hrel
                by_cases hltj : j < m
                · have hEj := (hA3.more hs3).below hbj
                  obtain ⟨b, rfl, hbb, ht0, ht1⟩ := hEj j (by rw [HM.out]; exact hltj)
                  have hre := HRE.out _ (ge_mem (es := es) (k := j) (by rw [HM.out]; exact hltj))
                  obtain ⟨u, hu⟩ := Int.eq_ofNat_of_zero_le hre.1
                  obtain ⟨v, hv⟩ := Int.eq_ofNat_of_zero_le hre.2.2.1
                  have HS : Hid (flE (es.take (j + 1)) (flR es (fl0 x) r) = if gb (flE (es.take j) (flR es (fl0 x) r)) u = true then (flE (es.take j) (flR es (fl0 x) r)).set v true else flE (es.take j) (flR es (fl0 x) r)) := Lib.hid (by
                    rw [flE_take es _ j (by rw [HM.out]; exact hltj), flS, hu, hv]; rfl)
                  rw [hu] at ht0
                  rw [hv] at ht1
                  have hun : u < k := by omega
                  have hvn : v < k := by omega
                  have hlen : (flE (es.take j) (flR es (fl0 x) r)).length = 8 := by rw [flE_len, flR_len]; simp [fl0]
                  obtain ⟨ss, hss⟩ : ∃ ss, ss = flE (es.take j) (flR es (fl0 x) r) := ⟨_, rfl⟩
                  rw [← hss] at hBj HS hlen
                  have hcu := hBj.cell (k := u) (by omega)
                  have hcv := hBj.cell (k := v) (by omega)
                  have hf := hBj.frozen v
                  clear hre hu hv hss hlen
                  by_cases hbit : gb ss u = true
                  · have HT : Hid (flE (es.take (j + 1)) (flR es (fl0 x) r) = ss.set v true) := Lib.hid (HS.out.trans (if_pos hbit))
                    go_wp2
                    go_roundw
                    case rel => exact ⟨j + 1, by omega, by go_num, by rw [HT.out]; exact hBj.set_ v true, hbj.setCell hg3 _⟩
                    case measure => simp [intOf]; omega
                  · have HT : Hid (flE (es.take (j + 1)) (flR es (fl0 x) r) = ss) := Lib.hid (HS.out.trans (if_neg hbit))
                    have hbit' : gb ss u = false := by simpa using hbit
                    clear hbit
                    go_wp2
                    go_roundw
                    case rel => exact ⟨j + 1, by omega, by go_num, by rw [HT.out]; exact hBj, hbj⟩
                    case measure => simp [intOf]; omega
                · obtain rfl : j = m := by omega
                  rw [List.take_of_length_le (show es.length ≤ j by rw [HM.out]; exact Nat.le_refl _)] at hBj
                  go_wp2
                  go_roundw
                  case rel => exact ⟨r + 1, by omega, by go_num, hBj, hbj⟩
                  case measure => simp [intOf]; omega
            · obtain rfl : r = k := by omega
              have hrx : Hid (∀ b, gb (flR es (fl0 x) r) b = (gd U x).testBit b) := Lib.hid (fun b => by
                rw [Bool.eq_iff_iff, flood_is hk8 es HRE.out x hltx b]
                exact (HUI.out x b).symm)
              have hlen : (flR es (fl0 x) r).length = 8 := by rw [flR_len]; simp [fl0]
              obtain ⟨ss, hss⟩ : ∃ ss, ss = flR es (fl0 x) r := ⟨_, rfl⟩
              rw [← hss] at hBr hrx hlen
              clear hss
              go_wp2
              go_loopw [11] (fun i wq => ∃ y : Nat, y ≤ r ∧ i = .int .i64 y ∧ Bools wq g ss ∧ Below w3.heap.size w3 wq) (fun i _ => r - (intOf i).toNat)
              case atStart => exact ⟨0, Nat.zero_le _, rfl, hBr, hbr⟩
              case round =>
                obtain ⟨y, hy, rfl, hBy, hby⟩ := hrel
                by_cases hlty : y < r
                · have oy := o.below hby lo.1 lo.2.1 lo.2.2
                  have hcy := hBy.cell (k := y) (by omega)
                  rw [hrx.out y] at hcy
                  obtain ⟨p, hp⟩ : ∃ p, p = (gd U x).testBit y := ⟨_, rfl⟩
                  obtain ⟨q, hq⟩ : ∃ q, q = (gd U y).testBit x := ⟨_, rfl⟩
                  have hanti : Hid (x ≠ y → p = true → q = true → False) := Lib.hid (by
                    intro hne h1 h2
                    exact hne (HL.out.au x y hltx hlty (by unfold B; rw [← hp]; exact h1) (by unfold B; rw [← hq]; exact h2)))
                  rw [← hp] at hcy
                  have M1 : ∀ nq, Calls Try.prog 15 #[.pointer (some ⟨h, 0, none⟩), .int .i64 x, .int .i64 y] (wr.drewN nq) fun e w' => e = .returned (.bool p) ∧ w' = wr.drewN nq := by
                    intro nq
                    refine (most_in _ h gu gv r U D (oy.below (Drawn.below ⟨nq, rfl⟩ (B := wr.heap.size)) oy.lt.1 oy.lt.2.1 oy.lt.2.2) x y hltx hlty).mono ?_
                    rintro e w' ⟨he, hw⟩
                    exact ⟨by rw [hp]; exact he, hw.symm⟩
                  have M2 : ∀ nq, Calls Try.prog 15 #[.pointer (some ⟨h, 0, none⟩), .int .i64 y, .int .i64 x] (wr.drewN nq) fun e w' => e = .returned (.bool q) ∧ w' = wr.drewN nq := by
                    intro nq
                    refine (most_in _ h gu gv r U D (oy.below (Drawn.below ⟨nq, rfl⟩ (B := wr.heap.size)) oy.lt.1 oy.lt.2.1 oy.lt.2.2) y x hlty hltx).mono ?_
                    rintro e w' ⟨he, hw⟩
                    exact ⟨by rw [hq]; exact he, hw.symm⟩
                  have H1 := Lib.hid M1
                  have H2 := Lib.hid M2
                  clear M1 M2 hp hq
                  by_cases hxy : x = y
                  · subst hxy
                    cases p
                    · go_wp2
                      go_quiet (first | (go_at_call 15; with_reducible exact Calls.quiet_of_same (H1.out _)) | (go_at_call 15; with_reducible exact Calls.quiet_of_same (H2.out _)))
                      go_wp2
                      go_roundw
                      case rel => exact ⟨x + 1, by omega, by go_num, hBy, hby.trans (Drawn.below ⟨_, rfl⟩)⟩
                      case measure => simp [intOf]; omega
                    · go_wp2
                      go_quiet (first | (go_at_call 15; with_reducible exact Calls.quiet_of_same (H1.out _)) | (go_at_call 15; with_reducible exact Calls.quiet_of_same (H2.out _)))
                      go_wp2
                      go_roundw
                      case rel => exact ⟨x + 1, by omega, by go_num, hBy, hby.trans (Drawn.below ⟨_, rfl⟩)⟩
                      case measure => simp [intOf]; omega
                  · have hn2 : ((x : Int) != (y : Int)) = true := by rw [bne_iff_ne]; omega
                    have HXY := Lib.hid hxy
                    clear hxy
                    cases p
                    · go_wp2
                      go_quiet (first | (go_at_call 15; with_reducible exact Calls.quiet_of_same (H1.out _)) | (go_at_call 15; with_reducible exact Calls.quiet_of_same (H2.out _)))
                      go_wp2
                      go_roundw
                      case rel => exact ⟨y + 1, by omega, by go_num, hBy, hby.trans (Drawn.below ⟨_, rfl⟩)⟩
                      case measure => simp [intOf]; omega
                    · obtain rfl : q = false := by
                        cases q
                        · rfl
                        · exact (hanti.out HXY.out rfl rfl).elim
                      go_wp2
                      go_quiet (first | (go_at_call 15; with_reducible exact Calls.quiet_of_same (H1.out _)) | (go_at_call 15; with_reducible exact Calls.quiet_of_same (H2.out _)))
                      go_wp2
                      go_roundw
                      case rel => exact ⟨y + 1, by omega, by go_num, hBy, hby.trans (Drawn.below ⟨_, rfl⟩)⟩
                      case measure => simp [intOf]; omega
                · obtain rfl : y = r := by omega
                  go_wp2
                  go_roundw
                  case rel => exact ⟨x + 1, by omega, by go_num, hby⟩
                  case measure => simp [intOf]; omega
        · obtain rfl : x = k := by omega
          have hsx := hbx.size
          have HC := Lib.hid (chain_ok HL.out.pd HL.out.ad hk8)
          have HH := Lib.hid (height_range HL.out hk0 hk8)
          obtain ⟨ht, hht⟩ : ∃ ht, ht = heightL U D := ⟨_, rfl⟩
          rw [← hht] at HH
          have hh1 := HH.out.1
          have hh2 := HH.out.2
          go_wp2_with fail
          refine (chain_any _ h gu gv x U D (o.below hbx lo.1 lo.2.1 lo.2.2)).mono ?_
          rintro e w7 ⟨gc, cc, rfl, hgc, hown, hb7⟩
          have hI := hown.ints.2
          have hgl := (hown.lt gc rfl).2
          rw [HC.out.len]
          have hb37 : Below w3.heap.size w3 w7 := hbx.trans (hb7.mono hsx)
          have hs7 := hb37.size
          have o7 := o.below hb37 lo.1 lo.2.1 lo.2.2
          go_wp2_with fail
          refine (height_any _ h gu gv x U D o7).mono ?_
          rintro e w8 ⟨rfl, hb8⟩
          rw [← hht]
          have hb78 : Below w7.heap.size w7 w8 := hb8
          have hb38 := hb37.trans (hb8.mono hs7)
          have hs8 := hb38.size
          go_wp2_with fail
          refine (height_any _ h gu gv x U D (o.below hb38 lo.1 lo.2.1 lo.2.2)).mono ?_
          rintro e w9 ⟨rfl, hb9⟩
          rw [← hht]
          have hb79 : Below w7.heap.size w7 w9 := hb78.trans (hb9.mono hb78.size)
          have o9 := o7.below hb79 o7.lt.1 o7.lt.2.1 o7.lt.2.2
          have hb39 := hb38.trans (hb9.mono hs8)
          have hI9 : Hid (∀ q, q < (chainL D).length → w9.cell? ⟨gc, q, none⟩ = some (.int .i64 (gi (chainL D) q))) := Lib.hid (fun q hq => by
            obtain ⟨b, hb, hc⟩ := hI q hq
            obtain rfl : gc = b := by injection hb with hb; injection hb
            exact (hb79.cell (p := ⟨gc, q, none⟩) hgl).trans hc)
          have hg9 : gc < w9.heap.size := Nat.lt_of_lt_of_le hgl hb79.size
          clear hI hown hb7 hb8 hb9 hb78 hb37 hb38 hs8 hs7 HH hht hb79 hgl
          go_wp2
          go_loopw [13] (fun i wr => ∃ p : Nat, p ≤ x ∧ i = .int .i64 p ∧ Below w9.heap.size w9 wr) (fun i _ => x - (intOf i).toNat)
          case atStart => exact ⟨0, Nat.zero_le _, rfl, Below.refl _ _⟩
          case round =>
            obtain ⟨p, hp, rfl, hbp⟩ := hrel
            by_cases hltp : p < x
            · go_wp2
              go_loopw [14] (fun i wr => ∃ q : Nat, q ≤ p ∧ i = .int .i64 q ∧ Below w9.heap.size w9 wr) (fun i _ => p - (intOf i).toNat)
              case atStart => exact ⟨0, Nat.zero_le _, rfl, hbp⟩
              case round =>
                obtain ⟨q, hq, rfl, hbq⟩ := hrel
                by_cases hltq : q < p
                · have hlen := HC.out.len
                  have hcp := (hbq.cell (p := ⟨gc, p, none⟩) hg9).trans (hI9.out p (by omega))
                  have hcq := (hbq.cell (p := ⟨gc, q, none⟩) hg9).trans (hI9.out q (by omega))
                  obtain ⟨y, hy⟩ := Int.eq_ofNat_of_zero_le (HC.out.range _ (gi_mem (show p < (chainL D).length by omega))).1
                  obtain ⟨z, hz⟩ := Int.eq_ofNat_of_zero_le (HC.out.range _ (gi_mem (show q < (chainL D).length by omega))).1
                  have hyn := (HC.out.range _ (gi_mem (show p < (chainL D).length by omega))).2
                  have hzn := (HC.out.range _ (gi_mem (show q < (chainL D).length by omega))).2
                  have hup := chain_up HL.out HC.out (show p < (chainL D).length by omega) hltq hy hz
                  rw [hy] at hcp hyn
                  rw [hz] at hcq hzn
                  have oq := o9.below hbq o9.lt.1 o9.lt.2.1 o9.lt.2.2
                  have M1 : ∀ nq, Calls Try.prog 15 #[.pointer (some ⟨h, 0, none⟩), .int .i64 y, .int .i64 z] (wr.drewN nq) fun e w' => e = .returned (.bool false) ∧ w' = wr.drewN nq := by
                    intro nq
                    refine (most_in _ h gu gv x U D (oq.below (Drawn.below ⟨nq, rfl⟩ (B := wr.heap.size)) oq.lt.1 oq.lt.2.1 oq.lt.2.2) y z (by omega) (by omega)).mono ?_
                    rintro e w' ⟨he, hw⟩
                    exact ⟨by rw [← hup.2]; exact he, hw.symm⟩
                  have H1 := Lib.hid M1
                  have hne : ((y : Int) == (z : Int)) = false := beq_eq_false_iff_ne.2 (fun e => hup.1 (Int.ofNat.inj e))
                  clear M1 hy hz hup hlen
                  go_wp2
                  go_quiet ((go_at_call 15; with_reducible exact Calls.quiet_of_same (H1.out _)))
                  go_wp2
                  go_roundw
                  case rel => exact ⟨q + 1, by omega, by go_num, hbq.trans (Drawn.below ⟨_, rfl⟩)⟩
                  case measure => simp [intOf]; omega
                · obtain rfl : q = p := by omega
                  go_wp2
                  go_roundw
                  case rel => exact ⟨q + 1, by omega, by go_num, hbq⟩
                  case measure => simp [intOf]; omega
            · obtain rfl : p = x := by omega
              go_wp2
              go_ret
              exact ⟨rfl, hb03.trans ((hb39.trans (hbp.mono hb39.size)).mono hs3)⟩

end Go.Proofs.Ytogmiofmhmbhbaa
