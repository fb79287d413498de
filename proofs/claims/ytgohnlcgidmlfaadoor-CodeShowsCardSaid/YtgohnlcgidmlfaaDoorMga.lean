/- The document's own answers of stage 10: Shape, sized, words. -/
import Derived.Test.YtgohnlcgidmlfaaDoorMel
import Derived.Test.YtgohnlcgidmlfaaDoorRi
set_option linter.unusedVariables false
set_option linter.unusedSimpArgs false
namespace Go.Proofs.YtgohnlcgidmlfaaDoor
open Go.RowKit

def shL : List (List UInt8) := [[],
  [114, 46, 46, 46, 46, 46, 110],
  [114, 105, 46, 46, 46, 46, 46],
  [114, 104, 46, 46, 46, 46, 46],
  [114, 114, 46, 46, 46, 46, 46],
  [114, 114, 46, 46, 46, 46, 117],
  [114, 114, 114, 46, 46, 46, 98],
  [114, 119, 46, 46, 46, 46, 107],
  [119, 114, 46, 46, 46, 46, 107],
  [114, 115, 46, 46, 46, 46, 46],
  [114, 114, 114, 46, 46, 46, 46],
  [114, 114, 103, 46, 46, 46, 107],
  [114, 103, 114, 46, 46, 46, 107],
  [114, 114, 114, 114, 46, 46, 46],
  [114, 114, 114, 114, 46, 46, 46],
  [114, 114, 114, 114, 114, 114, 46],
  [108, 46, 46, 46, 46, 46, 46],
  [108, 46, 46, 46, 46, 46, 46],
  [99, 114, 46, 46, 46, 46, 46],
  [114, 99, 46, 46, 46, 46, 46],
  [111, 114, 46, 46, 46, 46, 46],
  [114, 46, 46, 46, 46, 46, 46],
  [102, 100, 46, 46, 46, 46, 100],
  [46, 46, 46, 46, 46, 46, 46]]
def shT (kd : Int) : List UInt8 := if 1 ≤ kd ∧ kd ≤ 23 then shL[kd.toNat]?.getD [] else []
def shA : Array Value := (shL.map fun t => Value.string (bs t)).toArray
theorem shL_len : shL.length = 24 := rfl
theorem sh_cell (w : World) (k : Nat) (h : k < shL.length) : (w.alloc (.cells shA 64)).cell? ⟨w.heap.size, k, none⟩ = some (.string (bs (shL[k]?.getD []))) := by
  rw [cell_of_row _ _ k _ _ (0, 0) (heap_alloc_new w _)]
  simp [shA, h]
def shZ : Array Value := Array.replicate 24 (.string ⟨#[]⟩)

set_option maxRecDepth 100000 in
theorem shape_any (w : World) (kd : Int) : Calls Tryd.prog 51 #[.int .i64 kd] w fun e w' => e = .returned (.string (bs (shT kd))) ∧ Below w.heap.size w w' := by
  have hW := sh_cell w
  obtain ⟨wA, hwA⟩ : ∃ wA, wA = shA := ⟨_, rfl⟩
  rw [← hwA] at hW
  have hb : ∀ vs : List (Nat × Value), Tryd.prog.built 64 vs = some shA → Tryd.prog.built 64 vs = some wA := fun vs h => by rw [h, hwA]
  have hsz : (Tryd.prog.info? 64).map (·.size) = some wA.size := by rw [hwA]; kernel_rfl
  have hsz2 : shZ.size = wA.size := by rw [hwA]; rfl
  have hone : wA.all (·.oneCell') = true := by rw [hwA]; kernel_rfl
  obtain ⟨zA, hzA⟩ : ∃ zA, zA = shZ := ⟨_, rfl⟩
  have hz : (Tryd.prog.info? 64).map (fun i => (i.zero, i.size)) = some (some (.agg zA), 24) := by rw [hzA]; kernel_rfl
  rw [← hzA] at hsz2
  have HW := Lib.hid hW
  have HB := Lib.hid hb
  have HSZ := Lib.hid hsz
  have HZ := Lib.hid hz
  have HS2 := Lib.hid hsz2
  have HONE := Lib.hid hone
  have HBE : Hid (Below w.heap.size w (w.alloc (.cells wA 64))) := Lib.hid ((Below.refl _ w).alloc (Nat.le_refl _) _)
  clear hW hb hsz hz hsz2 hone hwA hzA
  by_cases h0 : kd < 1
  · have HT : Hid (shT kd = []) := Lib.hid (by unfold shT; rw [if_neg (by omega)])
    go_enter Tryd.func51, Tryd.ntmps51
    go_wp2_with (first
      | (with_reducible refine wpList_build_lit rfl 64 _ rfl _ rfl wA (HB.out _ (by kernel_rfl)) ?_)
      | (with_reducible refine wpList_alloc_lit rfl 64 rfl (.agg zA) 24 HZ.out zA rfl ?_)
      | (with_reducible refine wpList_store_lit rfl 64 _ _ rfl rfl zA wA rfl HSZ.out HS2.out HONE.out ?_))
    go_ret
    exact ⟨by rw [HT.out]; rfl, HBE.out⟩
  · by_cases h1 : 23 < kd
    · have HT : Hid (shT kd = []) := Lib.hid (by unfold shT; rw [if_neg (by omega)])
      go_enter Tryd.func51, Tryd.ntmps51
      go_wp2_with (first
        | (with_reducible refine wpList_build_lit rfl 64 _ rfl _ rfl wA (HB.out _ (by kernel_rfl)) ?_)
        | (with_reducible refine wpList_alloc_lit rfl 64 rfl (.agg zA) 24 HZ.out zA rfl ?_)
        | (with_reducible refine wpList_store_lit rfl 64 _ _ rfl rfl zA wA rfl HSZ.out HS2.out HONE.out ?_))
      go_ret
      exact ⟨by rw [HT.out]; rfl, HBE.out⟩
    · obtain ⟨k, rfl⟩ := Int.eq_ofNat_of_zero_le (show 0 ≤ kd by omega)
      have hk : k < 24 := by omega
      have HT : Hid (shT (k : Int) = shL[k]?.getD []) := Lib.hid (by unfold shT; rw [if_pos (by omega), Int.toNat_natCast])
      have hc := HW.out k hk
      obtain ⟨S, hS⟩ : ∃ S, S = bs (shL[k]?.getD []) := ⟨_, rfl⟩
      rw [← hS] at hc
      have HS := Lib.hid hS
      clear hS
      go_enter Tryd.func51, Tryd.ntmps51
      go_wp2_with (first
        | (with_reducible refine wpList_build_lit rfl 64 _ rfl _ rfl wA (HB.out _ (by kernel_rfl)) ?_)
        | (with_reducible refine wpList_alloc_lit rfl 64 rfl (.agg zA) 24 HZ.out zA rfl ?_)
        | (with_reducible refine wpList_store_lit rfl 64 _ _ rfl rfl zA wA rfl HSZ.out HS2.out HONE.out ?_))
      go_ret
      exact ⟨by rw [HT.out, ← HS.out]; rfl, HBE.out⟩

set_option maxHeartbeats 1000000 in
set_option maxRecDepth 100000 in
theorem rwords_any {w : World} {m : Mo} {v : Vm} (h : IsMo w (· < w.heap.size) m v) (hs : ∀ s ∈ m.globals, 0 ≤ s.size ∧ s.size ≤ 2) (hn : m.globals.length ≤ 16) :
    Calls Tryd.prog 33 #[.agg v.arr] w fun e w' => e = .returned (.int .i64 (sumS m.globals)) ∧ Below w.heap.size w w' := by
  obtain ⟨X, hX⟩ : ∃ X : World, X = w.alloc (.cells #[v.g, v.s, v.c, v.l, v.i, v.o, v.h, v.f, v.t] 27) := ⟨_, rfl⟩
  have hxb : Below w.heap.size w X := by rw [hX]; exact (Below.refl _ w).alloc (Nat.le_refl _) _
  obtain ⟨A, c, ev, hc, hM⟩ := h.g.form
  obtain ⟨ns, hns⟩ : ∃ ns, ns = m.globals.length := ⟨_, rfl⟩
  have hl := (h.grow hxb).g
  rw [ev] at hl
  rw [← hns] at ev hc hM hl
  have hx0 : X.cell? ⟨w.heap.size, 0, none⟩ = some (.slice A ns c) := by
    have h1 : MoBlk X w.heap.size v := by rw [hX]; exact MoBlk.grow
    rw [← ev]
    exact h1.cell 0
  have HX := Lib.hid hX
  have HXB := Lib.hid hxb
  have HL := Lib.hid hl
  have HNS := Lib.hid hns
  have HS := Lib.hid (show (∀ j, 0 ≤ sumS (m.globals.drop j)) ∧ sumS m.globals ≤ 32 from ⟨fun j => (sumS_bound _ (fun s hq => hs s (List.drop_subset _ _ hq))).1, by have := (sumS_bound _ hs).2; omega⟩)
  simp only [Vm.arr]
  have HHS := Lib.hid hs
  clear hX hxb hl hns ev h hs
  go_enter Tryd.func33, Tryd.ntmps33
  go_wp2_with fail
  try rw [← HX.out]
  go_wp2
  try rw [← HX.out]
  go_loop [3, 4] (fun u i => ∃ (j : Nat) (nn : Int), j ≤ ns ∧ i = .int .i64 j ∧ u = .int .i64 nn ∧ Hid (nn + sumS (m.globals.drop j) = sumS m.globals) ∧ 0 ≤ nn) (fun _ i => ns - (intOf i).toNat)
  case atStart => exact ⟨0, 0, Nat.zero_le _, rfl, rfl, Lib.hid (by simp), by omega⟩
  case round =>
    obtain ⟨j, nn, hj, rfl, rfl, HSU, hn0⟩ := hrel
    by_cases hlt : j < ns
    · have hje : j < m.globals.length := by rw [← HNS.out]; exact hlt
      obtain ⟨b, off, rfl, hbS, r0, r1, -, hin⟩ := HL.out.sized j hje
      have hsu := HSU.out
      rw [drop_at hje, sumS] at hsu
      have hr := HS.out.1 (j + 1)
      have hr2 := HS.out.2
      have hsz := HHS.out _ (List.getElem_mem hje)
      obtain ⟨Y, hY⟩ : ∃ Y, Y = m.globals[j] := ⟨_, rfl⟩
      rw [← hY] at r0 r1 hsu hsz hin
      clear hY
      have x1 := IntWalk.i64_in (nn + Y.size) (by omega)
      have HSU2 : Hid (nn + Y.size + sumS (m.globals.drop (j + 1)) = sumS m.globals) := Lib.hid (by omega)
      have HN2 : Hid (0 ≤ nn + Y.size) := Lib.hid (by omega)
      clear hsu hr hr2
      go_wp2
      go_round
      case rel => exact ⟨j + 1, _, by omega, by go_num, rfl, HSU2, HN2.out⟩
      case measure => simp [intOf]; omega
    · have HE : Hid (nn = sumS m.globals) := Lib.hid (by
        have := HSU.out
        rw [List.drop_of_length_le (by rw [← HNS.out]; omega)] at this
        simpa [sumS] using this)
      go_wp2
      go_ret
      exact ⟨rint HE.out, HXB.out⟩

theorem rg_true {lo hi x : Int} (h : lo ≤ x ∧ x ≤ hi) : rg lo hi x = true := rg_iff.2 h
set_option maxRecDepth 100000 in
theorem sized_any {w : World} {S : Nat → Prop} {xs : List Sz} {v : Value} (h : Lies KS w S xs v) (most lo hi : Int) :
    Calls Tryd.prog 30 #[v, .int .i64 most, .int .i64 lo, .int .i64 hi] w fun e w' => e = .returned (.bool (szB xs most lo hi)) ∧ w' = w := by
  obtain ⟨A, c, rfl, hc, hM⟩ := h.form
  obtain ⟨ns, hns⟩ : ∃ ns, ns = xs.length := ⟨_, rfl⟩
  have HX := Lib.hid h
  rw [← hns] at hc hM ⊢
  have HNS := Lib.hid hns
  clear hns h
  go_enter Tryd.func30, Tryd.ntmps30
  go_wp2
  go_loop [9] (fun i => ∃ j : Nat, j ≤ ns ∧ i = .int .i64 j ∧ Hid (∀ s ∈ xs.take j, rg lo hi s.size = true)) (fun i => ns - (intOf i).toNat)
  case atStart => exact ⟨0, Nat.zero_le _, rfl, Lib.hid (by simp)⟩
  case round =>
    obtain ⟨j, hj, rfl, HA⟩ := hrel
    by_cases hlt : j < ns
    · have hje : j < xs.length := by rw [← HNS.out]; exact hlt
      rw [← HNS.out] at HX
      obtain ⟨b, off, rfl, -, -, k1, -, -⟩ := HX.out.sized j hje
      have hmem := List.getElem_mem hje
      obtain ⟨Y, hY⟩ : ∃ Y, Y = xs[j] := ⟨_, rfl⟩
      rw [← hY] at k1 hmem
      have HMEM := Lib.hid hmem
      have HTK : Hid (xs.take (j + 1) = xs.take j ++ [Y]) := Lib.hid (by rw [List.take_add_one, List.getElem?_eq_getElem hje, Option.toList_some, hY])
      clear hY hmem HX
      by_cases h1 : Y.size < lo
      · have HE : Hid (szB xs most lo hi = false) := Lib.hid (by
          unfold szB
          rw [Bool.and_eq_false_iff]
          right
          rw [List.all_eq_false]
          exact ⟨Y, HMEM.out, by rw [Bool.not_eq_true]; unfold rg; simp; omega⟩)
        go_wp2
        go_ret
        exact ⟨rbool HE.out.symm, rfl⟩
      · by_cases h2 : hi < Y.size
        · have HE : Hid (szB xs most lo hi = false) := Lib.hid (by
            unfold szB
            rw [Bool.and_eq_false_iff]
            right
            rw [List.all_eq_false]
            exact ⟨Y, HMEM.out, by rw [Bool.not_eq_true]; unfold rg; simp; omega⟩)
          go_wp2
          go_ret
          exact ⟨rbool HE.out.symm, rfl⟩
        · have HA2 : Hid (∀ s ∈ xs.take (j + 1), rg lo hi s.size = true) := Lib.hid (fun s hs => by
            rw [HTK.out] at hs
            rcases List.mem_append.1 hs with hs | hs
            · exact HA.out s hs
            · simp at hs; subst hs; exact rg_true (by omega))
          go_wp2
          go_round
          case rel => exact ⟨j + 1, by omega, by go_num, HA2⟩
          case measure => simp [intOf]; omega
    · have HE : Hid (szB xs most lo hi = decide ((ns : Int) ≤ most)) := Lib.hid (by
        unfold szB
        have h1 := HA.out
        rw [List.take_of_length_le (by rw [← HNS.out]; omega)] at h1
        rw [List.all_eq_true.2 h1, Bool.and_true, HNS.out])
      clear HX
      go_wp2
      go_ret
      exact ⟨rbool HE.out.symm, rfl⟩

end Go.Proofs.YtgohnlcgidmlfaaDoor
