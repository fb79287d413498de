/- The walk of HeapApart. -/
import Derived.Test.YtnplekfpncjnpaaHai
import Derived.Test.YtnplekfpncjnpaaHaj
import Derived.Test.YtnplekfpncjnpaaHao
import Derived.Test.YtnplekfpncjnpaaRi
import Derived.Deep.Cut
set_option linter.unusedVariables false
set_option linter.unusedSimpArgs false
namespace Go.Proofs.Ytnplekfpncjnpaa
open Go.RowKit

def bit (b : Bool) : Value := .int .i64 (if b then 1 else 0)
/-- the array at block z says of each address whether it is in use (by p) -/
def SeenAt (w : World) (z : Nat) (p : Nat → Bool) : Prop := ∀ k, k < 300 → w.cell? ⟨z, k, none⟩ = some (bit (p k)) ∧ w.frozen? ⟨z, k, none⟩ = false
theorem SeenAt.keep {w w' : World} {z : Nat} {p : Nat → Bool} (h : SeenAt w z p) (hk : w'.heap[z]? = w.heap[z]?) : SeenAt w' z p := fun k hlt => ⟨(World.cell?_of_block hk).trans (h k hlt).1, (World.frozen?_of_block hk).trans (h k hlt).2⟩
theorem SeenAt.as {w : World} {z : Nat} {p q : Nat → Bool} (h : SeenAt w z p) (hq : ∀ k, q k = p k) : SeenAt w z q := fun k hlt => by rw [hq k]; exact h k hlt
theorem SeenAt.set {w : World} {z : Nat} {p q : Nat → Bool} (h : SeenAt w z p) (i : Nat) (hi : i < 300) (hq : ∀ k, q k = (p k || decide (k = i))) : SeenAt (w.setCell ⟨z, i, none⟩ (.int .i64 1)) z q := fun k hlt => by
  refine ⟨?_, by rw [World.frozen?_setCell]; exact (h k hlt).2⟩
  rw [hq]
  by_cases e : k = i
  · subst e
    rw [World.cell?_setCell_same _ _ _ (h k hlt).1]
    simp [bit]
  · rw [World.cell?_setCell_other _ _ _ _ (by intro e2; cases e2; exact e rfl), (h k hlt).1]
    simp [e]
theorem zerosA_get (k : Nat) (h : k < 300) : (Array.replicate 300 (Value.int .i64 0))[k]? = some (.int .i64 0) := by
  rw [Array.getElem?_replicate, if_pos h]
theorem HpAt.but {w w' : World} {base h g c : Nat} {A : List Value} {H : Hp} (X : HpAt w base h g c A H) {z : Nat} (hn : NotMine h g A z) (hk : ∀ b, b < w.heap.size → b ≠ z → w'.heap[b]? = w.heap[b]?) : HpAt w' base h g c A H := by
  refine ⟨⟨X.hb, X.gb, X.ne, X.cap, X.n4, (hk h (heap_lt X.box) (fun e => hn.1 e.symm)).trans X.box, (hk g (heap_lt X.row) (fun e => hn.2.1 e.symm)).trans X.row, X.len, fun t ht => ?_, fun t ht => ?_, X.ap, X.far⟩, X.good⟩
  · obtain ⟨v, hv, hr⟩ := X.wr t ht
    exact ⟨v, hv, ownsRow_keep hr (fun b hb => hk b (X.lt hv hb).2 (fun e => hn.2.2 _ _ hv (e ▸ hb)))⟩
  · obtain ⟨v, hv, hr⟩ := X.or_ t ht
    exact ⟨v, hv, ownsRow_keep hr (fun b hb => hk b (X.lt hv hb).2 (fun e => hn.2.2 _ _ hv (e ▸ hb)))⟩
theorem five_cells (w : World) (a b c d e : Value) (t : TypeId) : (w.alloc (.cells #[a, b, c, d, e] t)).heap[w.heap.size]? = some (.cells #[a, b, c, d, e] t (0, 0)) := heap_alloc_new w _
def Five (w : World) (y : Nat) (a b c d e : Value) : Prop := w.cell? ⟨y, 0, none⟩ = some a ∧ w.cell? ⟨y, 1, none⟩ = some b ∧ w.cell? ⟨y, 2, none⟩ = some c ∧ w.cell? ⟨y, 3, none⟩ = some d ∧ w.cell? ⟨y, 4, none⟩ = some e
theorem five_new (w : World) (a b c d e : Value) (t : TypeId) : Five (w.alloc (.cells #[a, b, c, d, e] t)) w.heap.size a b c d e := by
  have h := heap_alloc_new w (.cells #[a, b, c, d, e] t)
  refine ⟨?_, ?_, ?_, ?_, ?_⟩
  · rw [cell_of_row _ _ 0 _ _ (0, 0) h]; rfl
  · rw [cell_of_row _ _ 1 _ _ (0, 0) h]; rfl
  · rw [cell_of_row _ _ 2 _ _ (0, 0) h]; rfl
  · rw [cell_of_row _ _ 3 _ _ (0, 0) h]; rfl
  · rw [cell_of_row _ _ 4 _ _ (0, 0) h]; rfl
theorem Five.keep {w w' : World} {y : Nat} {a b c d e : Value} (h : Five w y a b c d e) (hk : w'.heap[y]? = w.heap[y]?) : Five w' y a b c d e :=
  ⟨(World.cell?_of_block hk).trans h.1, (World.cell?_of_block hk).trans h.2.1, (World.cell?_of_block hk).trans h.2.2.1, (World.cell?_of_block hk).trans h.2.2.2.1, (World.cell?_of_block hk).trans h.2.2.2.2⟩
def zerosA : Array Value := Array.replicate 300 (.int .i64 0)
theorem seen_new (w : World) (zA : Array Value) (hz : zA = zerosA) (t : TypeId) : SeenAt (w.alloc (.cells zA t)) w.heap.size (fun _ => false) := fun k hk => by
  subst hz
  refine ⟨?_, frozen_of_row _ _ _ _ _ (heap_alloc_new w _)⟩
  rw [cell_of_row _ _ k _ _ (0, 0) (heap_alloc_new w _)]
  exact zerosA_get k hk
set_option maxRecDepth 100000 in
set_option maxHeartbeats 4000000 in
theorem apart_walk (w : World) (tn : Int) (htn : In64 tn) (zs : List Cl) (sv : Value) (hv : Scr KC w (· < w.heap.size) zs sv) :
    Calls Try.prog 4 #[.int .i64 tn, sv] w fun e w' => e = .returned (.bool true) ∧ Below w.heap.size w w' := by
  obtain ⟨A, cz, rfl, hzc, hz63⟩ := hv.form
  have HAL := Lib.hid (alive_any w)
  have HV := Lib.hid hv
  have HTN := Lib.hid htn
  obtain ⟨n, hn⟩ : ∃ n, n = zs.length := ⟨_, rfl⟩
  rw [← hn] at hzc ⊢
  have HN := Lib.hid hn
  clear hv hn htn
  by_cases hbig : 200 < n
  · go_enter Try.func4, Try.ntmps4
    go_wp2_with fail
    refine HAL.out.mono ?_
    rintro e w1 ⟨rfl, hb1⟩
    have HB1 := Lib.hid hb1
    clear hb1
    go_wp2
    go_ret
    exact ⟨rfl, HB1.out⟩
  · have hsm : n ≤ 200 := by omega
    clear hbig
    obtain ⟨zA, hzA⟩ : ∃ zA, zA = zerosA := ⟨_, rfl⟩
    have HBU : Hid (∀ vs : List (Nat × Value), Try.prog.built 55 vs = some zerosA → Try.prog.built 55 vs = some zA) := Lib.hid (fun vs h => by rw [h, hzA])
    have HSZ : Hid ((Try.prog.info? 55).map (·.size) = some zA.size) := Lib.hid (by rw [hzA]; kernel_rfl)
    have HONE : Hid (zA.all (·.oneCell') = true) := Lib.hid (by rw [hzA]; kernel_rfl)
    have HZZ : Hid ((Try.prog.info? 55).map (fun i => (i.zero, i.size)) = some (some (.agg zA), 300)) := Lib.hid (by rw [hzA]; kernel_rfl)
    have HZA := Lib.hid hzA
    clear hzA
    go_enter Try.func4, Try.ntmps4
    go_wp2_with fail
    refine HAL.out.mono ?_
    rintro e w1 ⟨rfl, hb1⟩
    have HB1 := Lib.hid hb1
    have HNEW := Lib.hid (new_any w1 tn HTN.out)
    clear hb1 HAL
    go_wp2_with fail
    refine HNEW.out.mono ?_
    rintro e w2 ⟨h, g, c, A0, rfl, X0, hb2⟩
    have HX0 := Lib.hid X0
    have HB2 := Lib.hid (HB1.out.trans (hb2.mono HB1.out.size))
    obtain ⟨base, hbase⟩ : ∃ base, base = w1.heap.size := ⟨_, rfl⟩
    rw [← hbase] at HX0
    have HBASE := Lib.hid (show base ≤ w2.heap.size ∧ w.heap.size ≤ base from ⟨by rw [hbase]; exact hb2.size, by rw [hbase]; exact HB1.out.size⟩)
    clear X0 hb2 HNEW hbase HB1
    go_wp2_with (first
      | (with_reducible refine wpList_build_lit rfl 55 _ rfl _ rfl zA (HBU.out _ (by kernel_rfl)) ?_)
      | (with_reducible refine wpList_alloc_lit rfl 55 rfl (.agg zA) 300 HZZ.out zA rfl ?_)
      | (with_reducible refine wpList_store_lit rfl 55 _ _ rfl rfl zA zA rfl HSZ.out rfl HONE.out ?_))
    have hs0 := seen_new w2 zA HZA.out 55
    have hb0 : Below w2.heap.size w2 (w2.alloc (.cells zA 55)) := (Below.refl _ w2).alloc (Nat.le_refl _) _
    have hz0 : w2.heap.size < (w2.alloc (.cells zA 55)).heap.size := by simp
    generalize w2.alloc (.cells zA 55) = V0 at hs0 hb0 hz0 ⊢
    have hn0 := HX0.out.toHpRaw.notMine (Nat.le_refl w2.heap.size)
    obtain ⟨z, hz⟩ : ∃ z, z = w2.heap.size := ⟨_, rfl⟩
    have HX1 := Lib.hid (HX0.out.below hb0)
    have HBV := Lib.hid (HB2.out.trans (hb0.mono HB2.out.size))
    have HB1 : Hid (base ≤ V0.heap.size) := Lib.hid (Nat.le_trans HBASE.out.1 hb0.size)
    rw [← hz] at hs0 hn0 hz0 ⊢
    have HZW : Hid (w.heap.size ≤ z) := Lib.hid (by rw [hz]; exact Nat.le_trans HBASE.out.2 HBASE.out.1)
    have HS0 : Hid (SeenAt V0 z (fun k => (place (newM tn) (k : Nat)).isSome)) := Lib.hid (by simpa [place_new] using hs0)
    have HN0 := Lib.hid hn0
    have HZ0 := Lib.hid hz0
    clear hs0 hb0 hz hn0 hz0 HBU HSZ HONE HZZ HZA HX0 HB2
    go_loopw [7] (fun i wr => ∃ (j : Nat) (H : Hp) (A' : List Value), j ≤ n ∧ i = .int .i64 (j : Nat) ∧ Hid (HpAt wr base h g c A' H) ∧ Hid (base ≤ wr.heap.size) ∧ Hid (Below w.heap.size w wr) ∧ Hid (SeenAt wr z (fun k => (place H (k : Nat)).isSome)) ∧ Hid (NotMine h g A' z) ∧ Hid (z < wr.heap.size)) (fun i _ => n - (intOf i).toNat)
    case atStart => exact ⟨0, _, A0, Nat.zero_le _, rfl, HX1, HB1, HBV, HS0, HN0, HZ0⟩
    case round =>
      obtain ⟨wo, rfl⟩ : ∃ wo : World, wo = wr := ⟨_, rfl⟩
      obtain ⟨j, H, A', hj, rfl, HX, HBS, HB, HS, HNM, HZ⟩ := hrel
      by_cases hlt : j < n
      · have hjl : j < zs.length := by rw [← HN.out]; exact hlt
        obtain ⟨gz, off, rfl, hgz, k0, k1, k2, k3, k4, hin⟩ := HV.out.call j hjl
        have c0 := (HB.out.cell (p := ⟨gz, off + j * 5, none⟩) hgz).trans k0
        have c1 := (HB.out.cell (p := ⟨gz, off + j * 5 + 1, none⟩) hgz).trans k1
        have c2 := (HB.out.cell (p := ⟨gz, off + j * 5 + 2, none⟩) hgz).trans k2
        have c3 := (HB.out.cell (p := ⟨gz, off + j * 5 + 3, none⟩) hgz).trans k3
        have c4 := (HB.out.cell (p := ⟨gz, off + j * 5 + 4, none⟩) hgz).trans k4
        obtain ⟨q, hq⟩ : ∃ q, q = zs[j] := ⟨_, rfl⟩
        rw [← hq] at c0 c1 c2 c3 c4 hin
        obtain ⟨y0, y1, y2, y3, y4⟩ := q
        have HIN := Lib.hid hin
        dsimp only at c0 c1 c2 c3 c4
        clear k0 k1 k2 k3 k4 hin hq hjl
        have h5 := five_new wo (.int .i64 y0) (.int .i64 y1) (.int .i64 y2) (.int .i64 y3) (.int .i64 y4) 32
        have hb5 : Below wo.heap.size wo (wo.alloc (.cells #[.int .i64 y0, .int .i64 y1, .int .i64 y2, .int .i64 y3, .int .i64 y4] 32)) := (Below.refl _ wo).alloc (Nat.le_refl _) _
        have hy5 : wo.heap.size < (wo.alloc (.cells #[.int .i64 y0, .int .i64 y1, .int .i64 y2, .int .i64 y3, .int .i64 y4] 32)).heap.size := by simp
        have hny := HX.out.toHpRaw.notMine (Nat.le_refl wo.heap.size)
        have hzy : z ≠ wo.heap.size := by have := HZ.out; omega
        go_upto_region 13 with fail
        generalize wo.alloc (.cells #[.int .i64 y0, .int .i64 y1, .int .i64 y2, .int .i64 y3, .int .i64 y4] 32) = V at h5 hb5 hy5 ⊢
        obtain ⟨y, hy⟩ : ∃ y, y = wo.heap.size := ⟨_, rfl⟩
        have HXV := Lib.hid (HX.out.below hb5)
        have HBV := Lib.hid (HB.out.trans (hb5.mono HB.out.size))
        have HBSV : Hid (base ≤ V.heap.size) := Lib.hid (Nat.le_trans HBS.out hb5.size)
        have HSV := Lib.hid (HS.out.keep (hb5.block z HZ.out))
        have HZV : Hid (z < V.heap.size) := Lib.hid (Nat.lt_of_lt_of_le HZ.out hb5.size)
        rw [← hy] at h5 hy5 hny hzy ⊢
        have HNY := Lib.hid hny
        have HYW : Hid (w.heap.size ≤ y) := Lib.hid (by rw [hy]; exact HB.out.size)
        have H5 := Lib.hid h5
        have HYV := Lib.hid hy5
        obtain ⟨d0, d1, d2, d3, d4⟩ := h5
        clear hb5 hy hy5 hny c0 c1 c2 c3 c4 HX HB HBS HS HZ
        by_cases hw1 : y0 = 1
        · subst hw1
          have HM := make_any HXV.out HBSV.out y1 y2 y3 y4
          by_cases hcond : (0 ≤ y1 ∧ y1 < (H.length : Int) ∧ 0 < y2 ∧ y2 ≤ 64 - ((getM H y1.toNat).ws.length : Int))
          · obtain ⟨t, rfl⟩ : ∃ t : Nat, y1 = t := ⟨y1.toNat, by omega⟩
            obtain ⟨s, rfl⟩ : ∃ s : Nat, y2 = s := ⟨y2.toNat, by omega⟩
            rw [Int.toNat_natCast] at hcond
            obtain ⟨H', a, e1, ha1, ha2, hall, hpl⟩ := make_apart HXV.out.good (t := t) (by omega) (s := s) (by omega) (by omega) y3 y4
            rw [e1] at HM
            have HM := Lib.hid HM
            have HALL := Lib.hid hall
            have HPL := Lib.hid hpl
            have hs0 : 0 < s := by omega
            have hsb : s ≤ 256 := by omega
            have hat : ((a : Int) == 0) = false := by simp; omega
            have hat2 : (a == 0) = false := by simp; omega
            clear e1 hall hpl hcond
            go_wp2_with fail
            refine HM.out.mono ?_
            rintro e w3 ⟨A3, rfl, X3, hb3, hf3, hn3⟩
            have HX3 := Lib.hid X3
            have HBS3 : Hid (base ≤ w3.heap.size) := Lib.hid (Nat.le_trans HBSV.out hb3.size)
            have HB3 := Lib.hid (HBV.out.trans (hb3.mono HBASE.out.2))
            have HS3 := Lib.hid (HSV.out.keep (hf3.at_ HZV.out HNM.out))
            have HZ3 : Hid (z < w3.heap.size) := Lib.hid (Nat.lt_of_lt_of_le HZV.out hb3.size)
            have HNM3 := Lib.hid (hn3 z HZV.out HNM.out)
            have H53 := Lib.hid (H5.out.keep (hf3.at_ HYV.out HNY.out))
            have HY3 : Hid (y < w3.heap.size) := Lib.hid (Nat.lt_of_lt_of_le HYV.out hb3.size)
            obtain ⟨d0, d1, d2, d3, d4⟩ := H53.out
            clear hb3 hf3 hn3 X3 HM HXV HBV HSV HZV HNM H5 HYV HNY HBSV
            go_wp2_with fail
            clear d0 d1 d2 d3 d4
            go_loopw [11] (fun k wr => ∃ (i : Nat), i ≤ s ∧ k = .int .i64 (i : Nat) ∧ Hid (HpAt wr base h g c A3 H') ∧ Hid (base ≤ wr.heap.size) ∧ Hid (Below w.heap.size w wr) ∧ Hid (SeenAt wr z (fun k => (place H (k : Nat)).isSome || decide (a ≤ k ∧ k < a + i))) ∧ Hid (z < wr.heap.size) ∧ Hid (Five wr y (.int .i64 1) (.int .i64 (t : Nat)) (.int .i64 (s : Nat)) (.int .i64 y3) (.int .i64 y4)) ∧ Hid (y < wr.heap.size)) (fun k _ => s - (intOf k).toNat)
            case atStart => exact ⟨0, Nat.zero_le _, rfl, HX3, HBS3, HB3, Lib.hid (HS3.out.as (fun k => by rw [show decide (a ≤ k ∧ k < a + 0) = false from decide_eq_false (by omega), Bool.or_false])), HZ3, H53, HY3⟩
            case round =>
              obtain ⟨wi, rfl⟩ : ∃ wi : World, wi = wr := ⟨_, rfl⟩
              clear HX3 HBS3 HB3 HS3 HZ3 H53 HY3
              obtain ⟨i, hi, rfl, HX3, HBS3, HB3, HS3, HZ3, H53, HY3⟩ := hrel
              obtain ⟨d0, d1, d2, d3, d4⟩ := H53.out
              by_cases his : i < s
              · obtain ⟨hpn, hof, hld⟩ := HALL.out i his
                have hcell := (HS3.out (a + i) (by omega)).1
                have hfr := (HS3.out (a + i) (by omega)).2
                dsimp only at hcell
                rw [hpn, show decide (a ≤ a + i ∧ a + i < a + i) = false from decide_eq_false (by omega)] at hcell
                replace hcell : wi.cell? ⟨z, a + i, none⟩ = some (.int .i64 0) := hcell
                obtain ⟨W, hW⟩ : ∃ W, W = wi.setCell ⟨z, a + i, none⟩ (.int .i64 1) := ⟨_, rfl⟩
                have hoth : ∀ b, b ≠ z → W.heap[b]? = wi.heap[b]? := fun b hb => by rw [hW]; exact Below.heap_setCell _ _ _ b hb
                have hws : W.heap.size = wi.heap.size := by rw [hW]; simp
                have hseen : SeenAt W z (fun k => (place H (k : Nat)).isSome || decide (a ≤ k ∧ k < a + (i + 1))) := by
                  rw [hW]
                  refine HS3.out.set (a + i) (by omega) (fun k => ?_)
                  rw [Bool.or_assoc]
                  congr 1
                  rw [Bool.eq_iff_iff]
                  simp
                  omega
                have HXW := Lib.hid (HX3.out.but HNM3.out (fun b _ hb => hoth b hb))
                have HBW : Hid (Below w.heap.size w W) := Lib.hid (by
                  refine ⟨?_, ?_, ?_, by rw [hws]; exact HB3.out.size, fun b hb => (hoth b (by have := HZW.out; omega)).trans (HB3.out.block b hb)⟩
                  · rw [hW]; exact HB3.out.os
                  · rw [hW]; exact HB3.out.tape
                  · rw [hW]; exact HB3.out.output)
                have H5W := Lib.hid (H53.out.keep (hoth y (fun e => hzy e.symm)))
                have HSW := Lib.hid hseen
                have HZ3' : Hid (z < W.heap.size) := Lib.hid (by rw [hws]; exact HZ3.out)
                have HY3' : Hid (y < W.heap.size) := Lib.hid (by rw [hws]; exact HY3.out)
                have HBSW : Hid (base ≤ W.heap.size) := Lib.hid (by rw [hws]; exact HBS3.out)
                have HOF := of_any HXW.out ((a + i : Nat) : Int) (by unfold In64; omega)
                rw [hof] at HOF
                unfold OfV oagg at HOF
                dsimp only at HOF
                rw [show ((a + i : Nat) : Int) = (a : Int) + (i : Int) from by omega] at HOF
                have HOF := Lib.hid HOF
                have HLD := Lib.hid hld
                have HW := Lib.hid hW
                have hlo : ¬ ((a : Int) + (i : Int) < 1) := by omega
                have hhi : ¬ ((256 : Int) < (a : Int) + (i : Int)) := by omega
                clear hpn hof hld hseen hoth hws HX3 HB3 HS3 HZ3 H53 HY3 HBS3 hW
                go_upto_region 24 with fail
                rw [← HW.out]
                obtain ⟨L, hL⟩ : ∃ L, L = (getM H t).ws.length := ⟨_, rfl⟩
                rw [← hL] at HOF
                obtain ⟨d0, d1, d2, d3, d4⟩ := H5W.out
                clear hcell hfr HW hL
                go_wp2_with fail
                refine HOF.out.mono ?_
                rintro e w5 ⟨rfl, hb5⟩
                have o0 := four_c0 w5 (.int .i64 (L : Nat)) (.int .i64 (s : Nat)) (.int .i64 y3) (.int .i64 y4) 45
                have o1 := four_c1 w5 (.int .i64 (L : Nat)) (.int .i64 (s : Nat)) (.int .i64 y3) (.int .i64 y4) 45
                have o2 := four_c2 w5 (.int .i64 (L : Nat)) (.int .i64 (s : Nat)) (.int .i64 y3) (.int .i64 y4) 45
                have o3 := four_c3 w5 (.int .i64 (L : Nat)) (.int .i64 (s : Nat)) (.int .i64 y3) (.int .i64 y4) 45
                have hb5a : Below W.heap.size W (w5.alloc (.cells #[.int .i64 (L : Nat), .int .i64 (s : Nat), .int .i64 y3, .int .i64 y4] 45)) := hb5.alloc hb5.size _
                have hsz5 : w5.heap.size < (w5.alloc (.cells #[.int .i64 (L : Nat), .int .i64 (s : Nat), .int .i64 y3, .int .i64 y4] 45)).heap.size := by simp
                go_wp2_with fail
                generalize w5.alloc (.cells #[.int .i64 (L : Nat), .int .i64 (s : Nat), .int .i64 y3, .int .i64 y4] 45) = V5 at o0 o1 o2 o3 hb5a hsz5 ⊢
                obtain ⟨z5, hz5⟩ : ∃ z, z = w5.heap.size := ⟨_, rfl⟩
                rw [← hz5] at o0 o1 o2 o3 hsz5 ⊢
                have HX5 := Lib.hid (HXW.out.below hb5a)
                have HB5 := Lib.hid (HBW.out.trans (hb5a.mono HBW.out.size))
                have HS5 := Lib.hid (HSW.out.keep (hb5a.block z HZ3'.out))
                have H55 := Lib.hid (H5W.out.keep (hb5a.block y HY3'.out))
                have HZ5 : Hid (z < V5.heap.size) := Lib.hid (Nat.lt_of_lt_of_le HZ3'.out hb5a.size)
                have HY5 : Hid (y < V5.heap.size) := Lib.hid (Nat.lt_of_lt_of_le HY3'.out hb5a.size)
                have HBS5 : Hid (base ≤ V5.heap.size) := Lib.hid (Nat.le_trans HBSW.out hb5a.size)
                have HL := load_any HX5.out ((a + i : Nat) : Int) (by unfold In64; omega)
                rw [HLD.out] at HL
                unfold LoadV wagg noWd at HL
                dsimp only at HL
                rw [show ((a + i : Nat) : Int) = (a : Int) + (i : Int) from by omega] at HL
                have HL := Lib.hid HL
                clear hb5 hb5a hz5 HXW HBW HSW H5W HZ3' HY3' HBSW HOF d0 d1 d2 d3 d4
                refine HL.out.mono ?_
                rintro e w6 ⟨rfl, hb6⟩
                have q0 := two_c0 w6 (.int .i64 0) (.int .i64 0) 40
                have q1 := two_c1 w6 (.int .i64 0) (.int .i64 0) 40
                have hb6a : Below V5.heap.size V5 (w6.alloc (.cells #[.int .i64 0, .int .i64 0] 40)) := hb6.alloc hb6.size _
                have hsz6 : w6.heap.size < (w6.alloc (.cells #[.int .i64 0, .int .i64 0] 40)).heap.size := by simp
                have o0 := (hb6a.cell (p := ⟨z5, 0, none⟩) hsz5).trans o0
                have o1 := (hb6a.cell (p := ⟨z5, 1, none⟩) hsz5).trans o1
                have o2 := (hb6a.cell (p := ⟨z5, 2, none⟩) hsz5).trans o2
                have o3 := (hb6a.cell (p := ⟨z5, 3, none⟩) hsz5).trans o3
                have HX6 := Lib.hid (HX5.out.below hb6a)
                have HB6 := Lib.hid (HB5.out.trans (hb6a.mono HB5.out.size))
                have HS6 := Lib.hid (HS5.out.keep (hb6a.block z HZ5.out))
                have H56 := Lib.hid (H55.out.keep (hb6a.block y HY5.out))
                have HZ6 : Hid (z < _) := Lib.hid (Nat.lt_of_lt_of_le HZ5.out hb6a.size)
                have HY6 : Hid (y < _) := Lib.hid (Nat.lt_of_lt_of_le HY5.out hb6a.size)
                have HBS6 : Hid (base ≤ _) := Lib.hid (Nat.le_trans HBS5.out hb6a.size)
                obtain ⟨d0, d1, d2, d3, d4⟩ := H56.out
                clear hb6 hb6a HX5 HB5 HS5 H55 HZ5 HY5 HBS5 HL hsz5
                go_wp2
                go_roundw
                case rel => exact ⟨i + 1, by omega, by go_num, HX6, HBS6, HB6, HS6, HZ6, H56, HY6⟩
                case measure => simp [intOf]; omega
              · obtain rfl : i = s := by omega
                go_wp2
                go_roundw
                case rel => exact ⟨j + 1, H', A3, by omega, by go_num, HX3, HBS3, HB3, Lib.hid (HS3.out.as (fun k => HPL.out k)), HNM3, HZ3⟩
                case measure => simp [intOf]; omega
          · have hsame := make_same hcond y3 y4
            clear hcond
            rcases hsame with e1 | ⟨e0, e1⟩
            · rw [e1] at HM
              have HM := Lib.hid HM
              clear e1
              go_wp2_with fail
              refine HM.out.mono ?_
              rintro e w3 ⟨A3, rfl, X3, hb3, hf3, hn3⟩
              have HX3 := Lib.hid X3
              have HBS3 : Hid (base ≤ w3.heap.size) := Lib.hid (Nat.le_trans HBSV.out hb3.size)
              have HB3 := Lib.hid (HBV.out.trans (hb3.mono HBASE.out.2))
              have HS3 := Lib.hid (HSV.out.keep (hf3.at_ HZV.out HNM.out))
              have HZ3 : Hid (z < w3.heap.size) := Lib.hid (Nat.lt_of_lt_of_le HZV.out hb3.size)
              have HNM3 := Lib.hid (hn3 z HZV.out HNM.out)
              obtain ⟨d0, d1, d2, d3, d4⟩ := H5.out.keep (hf3.at_ HYV.out HNY.out)
              clear hb3 hf3 hn3 X3 HM
              go_wp2
              go_roundw
              case rel => exact ⟨j + 1, H, A3, by omega, by go_num, HX3, HBS3, HB3, HS3, HNM3, HZ3⟩
              case measure => simp [intOf]; omega
            · subst e0
              rw [e1] at HM
              have HM := Lib.hid HM
              clear e1
              go_wp2_with fail
              refine HM.out.mono ?_
              rintro e w3 ⟨A3, rfl, X3, hb3, hf3, hn3⟩
              have HX3 := Lib.hid X3
              have HBS3 : Hid (base ≤ w3.heap.size) := Lib.hid (Nat.le_trans HBSV.out hb3.size)
              have HB3 := Lib.hid (HBV.out.trans (hb3.mono HBASE.out.2))
              have HS3 := Lib.hid (HSV.out.keep (hf3.at_ HZV.out HNM.out))
              have HZ3 : Hid (z < w3.heap.size) := Lib.hid (Nat.lt_of_lt_of_le HZV.out hb3.size)
              have HNM3 := Lib.hid (hn3 z HZV.out HNM.out)
              obtain ⟨d0, d1, d2, d3, d4⟩ := H5.out.keep (hf3.at_ HYV.out HNY.out)
              clear hb3 hf3 hn3 X3 HM
              go_wp2
              go_roundw
              case rel => exact ⟨j + 1, H, A3, by omega, by go_num, HX3, HBS3, HB3, HS3, HNM3, HZ3⟩
              case measure => simp [intOf]; omega
        · have hw2 : (y0 == 1) = false := by simp [hw1]
          go_wp2
          go_roundw
          case rel => exact ⟨j + 1, H, A', by omega, by go_num, HXV, HBSV, HBV, HSV, HNM, HZV⟩
          case measure => simp [intOf]; omega
      · obtain rfl : j = n := by omega
        go_wp2_with fail
        go_loopw [17] (fun k wr => ∃ (i : Nat), i ≤ 300 ∧ k = .int .i64 (i : Nat) ∧ Hid (HpAt wr base h g c A' H) ∧ Hid (Below w.heap.size w wr) ∧ Hid (SeenAt wr z (fun k => (place H (k : Nat)).isSome)) ∧ Hid (z < wr.heap.size)) (fun k _ => 300 - (intOf k).toNat)
        case atStart => exact ⟨0, by omega, rfl, HX, HB, HS, HZ⟩
        case round =>
          obtain ⟨wi, rfl⟩ : ∃ wi : World, wi = wr := ⟨_, rfl⟩
          clear HX HB HS HZ
          obtain ⟨i, hi, rfl, HX, HB, HS, HZ⟩ := hrel
          by_cases his : i < 300
          · have HL := load_any HX.out (i : Nat) (by unfold In64; omega)
            have hlk := load_is H (i : Nat)
            obtain ⟨Lw, hLw⟩ : ∃ L, L = loadM H (i : Nat) := ⟨_, rfl⟩
            rw [← hLw] at HL hlk
            obtain ⟨⟨l0, l1⟩, lk⟩ := Lw
            unfold LoadV wagg at HL
            dsimp only at HL hlk
            have HL := Lib.hid HL
            have hs1 := (HS.out i his).1
            dsimp only at hs1
            rw [← hlk] at hs1
            have HS1 := Lib.hid hs1
            clear hs1 hlk hLw
            go_wp2_with fail
            refine HL.out.mono ?_
            rintro e w6 ⟨rfl, hb6⟩
            have hb6a : Below wi.heap.size wi (w6.alloc (.cells #[.int .i64 l0, .int .i64 l1] 40)) := hb6.alloc hb6.size _
            have HX6 := Lib.hid (HX.out.below hb6a)
            have HB6 := Lib.hid (HB.out.trans (hb6a.mono HB.out.size))
            have HS6 := Lib.hid (HS.out.keep (hb6a.block z HZ.out))
            have HZ6 : Hid (z < _) := Lib.hid (Nat.lt_of_lt_of_le HZ.out hb6a.size)
            have hcc := (hb6a.cell (p := ⟨z, i, none⟩) HZ.out).trans HS1.out
            clear hb6 hb6a HX HB HS HZ HL HS1
            cases lk with
            | true =>
              replace hcc : _ = some (Value.int .i64 1) := hcc
              go_wp2
              go_roundw
              case rel => exact ⟨i + 1, by omega, by go_num, HX6, HB6, HS6, HZ6⟩
              case measure => simp [intOf]; omega
            | false =>
              replace hcc : _ = some (Value.int .i64 0) := hcc
              go_wp2
              go_roundw
              case rel => exact ⟨i + 1, by omega, by go_num, HX6, HB6, HS6, HZ6⟩
              case measure => simp [intOf]; omega
          · obtain rfl : i = 300 := by omega
            go_wp2
            go_ret
            exact ⟨rfl, HB.out⟩

end Go.Proofs.Ytnplekfpncjnpaa
