/- Ee -/
import Derived.Test.YtbckeljbpknbdaaGreatDoorYe5
import Derived.Test.YtbckeljbpknbdaaGreatDoorRows
set_option linter.unusedVariables false
set_option linter.unusedSimpArgs false
namespace Go.Proofs.YtbckeljbpknbdaaGreatDoor
open Go.RowKit
set_option maxHeartbeats 1000000 in
theorem rfind_any (w : World) {ds : List Dc} {v : Value} (hin : DcsIn w (· < w.heap.size) ds v) (s : List UInt8) :
  Calls Tryz.prog 11 #[.agg #[v], .string (strOf s)] w fun e w' => e = .returned (.int .i64 (findI ds s)) ∧ Below w.heap.size w w' := by
 obtain ⟨A, c, fp, fb, rfl, hc, hM, hA, -, -⟩ := hin
 obtain ⟨n, hn⟩ : ∃ n, n = ds.length := ⟨_, rfl⟩
 rw [← hn] at hc ⊢
 obtain ⟨S, hS⟩ : ∃ S, S = strOf s := ⟨_, rfl⟩
 have hsl : S.toList = s := by rw [hS, Lib.toList_data]; rfl
 rw [← hS]
 obtain ⟨X, hX⟩ : ∃ X : World, X = w.alloc (.cells #[.slice A n c] 25) := ⟨_, rfl⟩
 have hbx : Below w.heap.size w X := by rw [hX]; exact below_new _ _
 have hcell : X.cell? ⟨w.heap.size, 0, none⟩ = some (.slice A n c) := by rw [hX, cell_of_row _ _ 0 _ _ (0, 0) (heap_alloc_new w _)]; rfl
 have HA := Lib.hid hA
 have HN := Lib.hid hn
 have HS := Lib.hid hsl
 have HBX := Lib.hid hbx
 have HX := Lib.hid hX
 have HC := Lib.hid hcell
 clear hA hn hS hsl hbx hX hcell
 go_enter Tryz.func11, Tryz.ntmps11
 go_wp2
 rw [← HX.out]
 have hcell := HC.out
 go_loop [5] (fun i => ∃ j : Nat, j ≤ n ∧ i = .int .i64 j ∧ Hid (∀ i (hi : i < ds.length), i < j → ds[i].name ≠ s)) (fun i => n - (intOf i).toNat)
 case atStart => exact ⟨0, Nat.zero_le _, rfl, Lib.hid (fun i _ hi => absurd hi (by omega))⟩
 case round =>
  obtain ⟨j, hj, rfl, HF⟩ := hrel
  by_cases hlt : j < n
  · have hjl : j < ds.length := by rw [← HN.out]; exact hlt
    obtain ⟨b, off, rfl, hb, _, _, _, _, _, c3, -⟩ := HA.out j hjl
    have r3 := (HBX.out.cell (p := ⟨b, off + j * 7 + 3, none⟩) hb).trans c3
    obtain ⟨NM, hNM⟩ : ∃ NM, NM = strOf ds[j].name := ⟨_, rfl⟩
    rw [← hNM] at r3
    have hnl : NM.toList = ds[j].name := by rw [hNM, Lib.toList_data]; rfl
    have hwj : IntKind.i64.wrap ((j : Int) + 1) = (j : Int) + 1 := IntWalk.i64_in _ ⟨by omega, by omega⟩
    by_cases he : ds[j].name = s
    · have HT : Hid (findI ds s = (j : Nat)) := Lib.hid (findI_hit hjl (fun i hi => HF.out i (by omega) hi) he)
      have hq : (NM.toList == S.toList) = true := by rw [hnl, HS.out, he]; simp
      clear hnl hNM c3 he HF hb
      go_wp2
      go_ret
      exact ⟨by rw [HT.out]; rfl, HBX.out⟩
    · have HF2 : Hid (∀ i (hi : i < ds.length), i < j + 1 → ds[i].name ≠ s) := Lib.hid fun i hi hij => by
       by_cases e : i = j
       · subst e; exact he
       · exact HF.out i hi (by omega)
      have hq : (NM.toList == S.toList) = false := by rw [hnl, HS.out]; simpa using he
      clear hnl hNM c3 he HF hb
      go_wp2
      go_round
      case rel => exact ⟨j + 1, by omega, by go_num, HF2⟩
      case measure => first | (simp [intOf]; done) | (simp [intOf]; omega)
  · have HT : Hid (findI ds s = -1) := Lib.hid (findI_none fun i hi => HF.out i hi (by rw [← HN.out] at hi; omega))
    clear HF
    go_wp2
    go_ret
    exact ⟨by rw [HT.out]; rfl, HBX.out⟩
end Go.Proofs.YtbckeljbpknbdaaGreatDoor
