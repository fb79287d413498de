/- The walk of HeapFull. -/
import Derived.Test.YtnplekfpncjnpaaHai
import Derived.Test.YtnplekfpncjnpaaHaj
set_option linter.unusedVariables false
set_option linter.unusedSimpArgs false
namespace Go.Proofs.Ytnplekfpncjnpaa
open Go.RowKit

theorem full_no {m : Mm} {a : Nat} (ha : a = m.ws.length) (size fn op : Int) (h : size < 0 ∨ 64 - (a : Int) < size) : makeM [m] 0 size fn op = ([m], 0, false) := by
  unfold makeM
  rw [if_neg (by simp), if_pos (by simpa [getM, ← ha] using h)]
theorem full_zero {m : Mm} {a : Nat} (ha : a = m.ws.length) (h64 : a ≤ 64) (fn op : Int) : makeM [m] 0 0 fn op = ([m], 0, true) := by
  unfold makeM
  rw [if_neg (by simp), if_neg (by simp [getM, ← ha]; omega), if_pos rfl]
theorem full_yes {m : Mm} {a : Nat} (ha : a = m.ws.length) (s : Nat) (h0 : 0 < s) (h : (s : Int) ≤ 64 - (a : Int)) (fn op : Int) :
    makeM [m] 0 (s : Nat) fn op = ([⟨m.ws ++ List.replicate s noWd, m.os ++ [⟨a, s, fn, op⟩]⟩], 1 + (a : Int), true) := by
  unfold makeM
  rw [if_neg (by simp), if_neg (by simp [getM, ← ha]; omega), if_neg (by omega)]
  simp [getM, ← ha]

set_option maxRecDepth 100000 in
set_option maxHeartbeats 4000000 in
theorem full_walk (w : World) (zs : List Int) (v : Value) (hv : Scr KN w (· < w.heap.size) zs v) :
    Calls Try.prog 6 #[v] w fun e w' => e = .returned (.bool true) ∧ Below w.heap.size w w' := by
  obtain ⟨A, cz, rfl, hzc, hz63⟩ := hv.form
  have HAL := Lib.hid (alive_any w)
  have HV := Lib.hid hv
  obtain ⟨n, hn⟩ : ∃ n, n = zs.length := ⟨_, rfl⟩
  rw [← hn] at hzc ⊢
  have HN := Lib.hid hn
  clear hv hn
  by_cases hbig : 300 < n
  · go_enter Try.func6, Try.ntmps6
    go_wp2_with fail
    refine HAL.out.mono ?_
    rintro e w1 ⟨rfl, hb1⟩
    have HB1 := Lib.hid hb1
    clear hb1
    go_wp2
    go_ret
    exact ⟨rfl, HB1.out⟩
  · have hsm : n ≤ 300 := by omega
    clear hbig
    go_enter Try.func6, Try.ntmps6
    go_wp2_with fail
    refine HAL.out.mono ?_
    rintro e w1 ⟨rfl, hb1⟩
    have HB1 := Lib.hid hb1
    have HNEW := Lib.hid (new_any w1 1 (by unfold In64; omega))
    clear hb1 HAL
    go_wp2_with fail
    refine HNEW.out.mono ?_
    rintro e w2 ⟨h, g, c, A0, rfl, X0, hb2⟩
    have HX0 := Lib.hid X0
    have HB2 := Lib.hid (HB1.out.trans (hb2.mono HB1.out.size))
    obtain ⟨base, hbase⟩ : ∃ base, base = w1.heap.size := ⟨_, rfl⟩
    rw [← hbase] at HX0
    have HBASE := Lib.hid (show base ≤ w2.heap.size ∧ w.heap.size ≤ base from ⟨by rw [hbase]; exact hb2.size, by rw [hbase]; exact HB1.out.size⟩)
    clear X0 hb2 HNEW hbase HB1
    go_wp2_with fail
    go_loopw [4, 5, 6] (fun u o i wr => ∃ (j a b : Nat) (m : Mm) (A' : List Value), j ≤ n ∧ u = .int .i64 (a : Nat) ∧ o = .int .i64 (b : Nat) ∧ i = .int .i64 (j : Nat) ∧ a ≤ 64 ∧ b ≤ 64 ∧ Hid (a = m.ws.length) ∧ Hid (b = m.os.length) ∧ Hid (HpAt wr base h g c A' [m]) ∧ Hid (base ≤ wr.heap.size) ∧ Hid (Below w.heap.size w wr)) (fun _ _ i _ => n - (intOf i).toNat)
    case atStart => exact ⟨0, 0, 0, ⟨[], []⟩, A0, Nat.zero_le _, rfl, rfl, rfl, by omega, by omega, Lib.hid rfl, Lib.hid rfl, HX0, Lib.hid HBASE.out.1, HB2⟩
    case round =>
      obtain ⟨wo, rfl⟩ : ∃ wo : World, wo = wr := ⟨_, rfl⟩
      obtain ⟨j, a, b, m, A', hj, rfl, rfl, rfl, ha64, hb64, HAM, HBM, HX, HBS, HB⟩ := hrel
      by_cases hlt : j < n
      · have hjl : j < zs.length := by rw [← HN.out]; exact hlt
        obtain ⟨gz, off, rfl, hgz, k0, hin⟩ := HV.out.num j hjl
        have hc := (HB.out.cell (p := ⟨gz, off + j, none⟩) hgz).trans k0
        obtain ⟨s, hs⟩ : ∃ s, s = zs[j] := ⟨_, rfl⟩
        rw [← hs] at hc hin
        unfold In64 at hin
        have HM := make_any HX.out HBS.out 0 s 0 (j : Nat)
        clear k0 hs hjl
        by_cases hneg : s < 0
        · rw [full_no HAM.out s 0 j (.inl hneg)] at HM
          have HM := Lib.hid HM
          go_wp2_with fail
          refine HM.out.mono ?_
          rintro e w3 ⟨A3, rfl, X3, hb3⟩
          dsimp only at X3
          have HX3 := Lib.hid X3
          have HBS3 : Hid (base ≤ w3.heap.size) := Lib.hid (Nat.le_trans HBS.out hb3.size)
          have HB3 := Lib.hid (HB.out.trans (hb3.mono HBASE.out.2))
          have hc3 := (hb3.cell (p := ⟨gz, off + j, none⟩) (by show gz < base; have := HBASE.out.2; omega)).trans hc
          clear hb3 X3 hc HM HX HB
          go_wp2
          go_roundw
          case rel => exact ⟨j + 1, a, b, m, A3, by omega, rfl, rfl, by go_num, ha64, hb64, HAM, HBM, HX3, HBS3, HB3⟩
          case measure => simp [intOf]; omega
        by_cases hbg : 64 - (a : Int) < s
        · rw [full_no HAM.out s 0 j (.inr hbg)] at HM
          have HM := Lib.hid HM
          go_wp2_with fail
          refine HM.out.mono ?_
          rintro e w3 ⟨A3, rfl, X3, hb3⟩
          dsimp only at X3
          have HX3 := Lib.hid X3
          have HBS3 : Hid (base ≤ w3.heap.size) := Lib.hid (Nat.le_trans HBS.out hb3.size)
          have HB3 := Lib.hid (HB.out.trans (hb3.mono HBASE.out.2))
          have hc3 := (hb3.cell (p := ⟨gz, off + j, none⟩) (by show gz < base; have := HBASE.out.2; omega)).trans hc
          clear hb3 X3 hc HM HX HB
          go_wp2
          go_roundw
          case rel => exact ⟨j + 1, a, b, m, A3, by omega, rfl, rfl, by go_num, ha64, hb64, HAM, HBM, HX3, HBS3, HB3⟩
          case measure => simp [intOf]; omega
        obtain ⟨t, rfl⟩ : ∃ t : Nat, s = t := ⟨s.toNat, by omega⟩
        by_cases hz : t = 0
        · subst hz
          rw [show ((0 : Nat) : Int) = 0 from rfl] at HM hc
          rw [full_zero HAM.out ha64 0 j] at HM
          have HM := Lib.hid HM
          go_wp2_with fail
          refine HM.out.mono ?_
          rintro e w3 ⟨A3, rfl, X3, hb3⟩
          dsimp only at X3
          have HX3 := Lib.hid X3
          have HBS3 : Hid (base ≤ w3.heap.size) := Lib.hid (Nat.le_trans HBS.out hb3.size)
          have HB3 := Lib.hid (HB.out.trans (hb3.mono HBASE.out.2))
          have hc3 := (hb3.cell (p := ⟨gz, off + j, none⟩) (by show gz < base; have := HBASE.out.2; omega)).trans hc
          clear hb3 X3 hc HM HX HB
          go_wp2
          go_roundw
          case rel => exact ⟨j + 1, a, b, m, A3, by omega, rfl, rfl, by go_num, ha64, hb64, HAM, HBM, HX3, HBS3, HB3⟩
          case measure => simp [intOf]; omega
        · rw [full_yes HAM.out t (by omega) (by omega) 0 j] at HM
          have HM := Lib.hid HM
          have ht0 : (0 : Int) < (t : Int) := by omega
          go_wp2_with fail
          refine HM.out.mono ?_
          rintro e w3 ⟨A3, rfl, X3, hb3⟩
          dsimp only at X3
          have HX3 := Lib.hid X3
          have HBS3 : Hid (base ≤ w3.heap.size) := Lib.hid (Nat.le_trans HBS.out hb3.size)
          have HB3 := Lib.hid (HB.out.trans (hb3.mono HBASE.out.2))
          have hc3 := (hb3.cell (p := ⟨gz, off + j, none⟩) (by show gz < base; have := HBASE.out.2; omega)).trans hc
          clear hb3 X3 hc HM HX HB
          have hat : a + t ≤ 64 := by omega
          have hob : b + 1 ≤ 64 := by
            have h1 := HX3.out.good.2 _ (List.mem_singleton.2 rfl)
            have h2 := chained_le h1.1
            have h3 := h1.2
            simp at h2 h3
            have := HBM.out
            omega
          go_wp2
          go_roundw
          case rel => exact ⟨j + 1, a + t, b + 1, _, A3, by omega, by go_num, by go_num, by go_num, hat, hob, Lib.hid (by simp [HAM.out]), Lib.hid (by simp [HBM.out]), HX3, HBS3, HB3⟩
          case measure => simp [intOf]; omega
      · obtain rfl : j = n := by omega
        have HW := Lib.hid (words_any HX.out 0)
        go_wp2_with fail
        refine HW.out.mono ?_
        rintro e w6 ⟨v, rfl, hr, hb6⟩
        obtain ⟨B, d, rfl, -⟩ := hr.form
        have HB7 := Lib.hid (HB.out.trans (hb6.mono HB.out.size))
        have HO := Lib.hid (objects_any (HX.out.below hb6) 0)
        rw [show (ws_ [m] 0).length = a from by rw [HAM.out]; rfl]
        clear hr hb6 HW
        go_wp2_with fail
        refine HO.out.mono ?_
        rintro e w7 ⟨v, rfl, hr, hb7⟩
        obtain ⟨B2, d2, rfl, -⟩ := hr.form
        rw [show (os_ [m] 0).length = b from by rw [HBM.out]; rfl]
        have HB8 := Lib.hid (HB7.out.trans (hb7.mono HB7.out.size))
        clear hr hb7 HB7 HO
        go_wp2
        go_ret
        exact ⟨rfl, HB8.out⟩

end Go.Proofs.Ytnplekfpncjnpaa
