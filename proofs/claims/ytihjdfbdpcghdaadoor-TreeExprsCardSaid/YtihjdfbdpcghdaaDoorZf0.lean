/- Xm -/
import Derived.Test.YtihjdfbdpcghdaaDoorZf2
import Derived.IntWalk
set_option linter.unusedVariables false
namespace Go.Proofs.YtihjdfbdpcghdaaDoor
open Go.RowKit
theorem heap_at (w : World) (o : Obj) {k : Nat} (h : k = w.heap.size) : (w.alloc o).heap[k]? = some o := by subst h; exact heap_alloc_new _ _
theorem tree_a (w : World) (X : World) (hX : X = ((((w.alloc (.cells #[.int .i64 4, .int .i64 0, .int .i64 0, .string ⟨#[97]⟩, .slice none 0 0, .int .i64 1, .int .i64 0, .int .i64 1, .string ⟨#[]⟩, .slice none 0 0] 24)).alloc
    (.cells #[.int .i64 10, .int .i64 0, .int .i64 0, .string ⟨#[43]⟩, .slice (some ⟨w.heap.size, 0, none⟩) 2 2] 24)).alloc
    (.cells #[.int .i64 9, .int .i64 0, .string ⟨#[115]⟩, .string ⟨#[]⟩, .slice (some ⟨w.heap.size + 1, 0, none⟩) 1 1, .slice none 0 0, .slice none 0 0] 39)).alloc
    (.cells #[.int .i64 8, .int .i64 0, .int .i64 0, .string ⟨#[116]⟩, .string ⟨#[]⟩, .slice none 0 0, .slice (some ⟨w.heap.size + 1 + 1, 0, none⟩) 1 1] 42)).alloc
    (.cells #[.slice (some ⟨w.heap.size + 1 + 1 + 1, 0, none⟩) 1 1] 45)) :
    Below w.heap.size w X ∧ X.heap.size = w.heap.size + 5 ∧ DcsIn X (· < X.heap.size) [aD] (.slice (some ⟨w.heap.size + 1 + 1 + 1, 0, none⟩) 1 1) ∧ X.heap[w.heap.size + 1 + 1 + 1 + 1]? = some (.cells #[.slice (some ⟨w.heap.size + 1 + 1 + 1, 0, none⟩) 1 1] 45 (0, 0)) := by
  have hsz : X.heap.size = w.heap.size + 5 := by rw [hX]; simp
  have h0 : X.heap[w.heap.size]? = some (.cells #[.int .i64 4, .int .i64 0, .int .i64 0, .string ⟨#[97]⟩, .slice none 0 0, .int .i64 1, .int .i64 0, .int .i64 1, .string ⟨#[]⟩, .slice none 0 0] 24 (0, 0)) := by
    rw [hX, Below.heap_alloc _ _ _ (by simp <;> omega), Below.heap_alloc _ _ _ (by simp <;> omega), Below.heap_alloc _ _ _ (by simp <;> omega), Below.heap_alloc _ _ _ (by simp)]
    exact heap_alloc_new _ _
  have h1 : X.heap[w.heap.size + 1]? = some (.cells #[.int .i64 10, .int .i64 0, .int .i64 0, .string ⟨#[43]⟩, .slice (some ⟨w.heap.size, 0, none⟩) 2 2] 24 (0, 0)) := by
    rw [hX, Below.heap_alloc _ _ _ (by simp <;> omega), Below.heap_alloc _ _ _ (by simp <;> omega), Below.heap_alloc _ _ _ (by simp)]
    exact heap_at _ _ (by simp)
  have h2 : X.heap[w.heap.size + 1 + 1]? = some (.cells #[.int .i64 9, .int .i64 0, .string ⟨#[115]⟩, .string ⟨#[]⟩, .slice (some ⟨w.heap.size + 1, 0, none⟩) 1 1, .slice none 0 0, .slice none 0 0] 39 (0, 0)) := by
    rw [hX, Below.heap_alloc _ _ _ (by simp <;> omega), Below.heap_alloc _ _ _ (by simp)]
    exact heap_at _ _ (by simp)
  have h3 : X.heap[w.heap.size + 1 + 1 + 1]? = some (.cells #[.int .i64 8, .int .i64 0, .int .i64 0, .string ⟨#[116]⟩, .string ⟨#[]⟩, .slice none 0 0, .slice (some ⟨w.heap.size + 1 + 1, 0, none⟩) 1 1] 42 (0, 0)) := by
    rw [hX, Below.heap_alloc _ _ _ (by simp)]
    exact heap_at _ _ (by simp)
  have h4 : X.heap[w.heap.size + 1 + 1 + 1 + 1]? = some (.cells #[.slice (some ⟨w.heap.size + 1 + 1 + 1, 0, none⟩) 1 1] 45 (0, 0)) := by
    rw [hX]
    exact heap_at _ _ (by simp)
  refine ⟨?_, hsz, ?_, h4⟩
  · rw [hX]
    exact ((((((Below.refl _ _).alloc (Nat.le_refl _) _).alloc (by simp) _).alloc (by simp <;> omega) _).alloc (by simp <;> omega) _).alloc (by simp <;> omega) _)
  · refine dcs_one (e := aD) (by omega) (by decide +kernel) (by decide +kernel) h3 (prs_nil _ _) ?_
    refine sms_one (e := aS) (by omega) (by decide +kernel) (by decide +kernel) h2 ?_ (sms_nil _ _) (sms_nil _ _)
    refine exs_one (e := aE) (by omega) (by decide +kernel) h1 ?_
    exact exs_two (by omega) (by simp) (by simp) h0
set_option maxRecDepth 100000 in
theorem alive_any (w : World) (htab : TabW w) :
    Calls Tryd.prog 4 #[] w fun r w' => r = .returned (.bool true) ∧ Below w.heap.size w w' := by
  obtain ⟨X, hX⟩ : ∃ X : World, X = ((((w.alloc (.cells #[.int .i64 4, .int .i64 0, .int .i64 0, .string ⟨#[97]⟩, .slice none 0 0, .int .i64 1, .int .i64 0, .int .i64 1, .string ⟨#[]⟩, .slice none 0 0] 24)).alloc
    (.cells #[.int .i64 10, .int .i64 0, .int .i64 0, .string ⟨#[43]⟩, .slice (some ⟨w.heap.size, 0, none⟩) 2 2] 24)).alloc
    (.cells #[.int .i64 9, .int .i64 0, .string ⟨#[115]⟩, .string ⟨#[]⟩, .slice (some ⟨w.heap.size + 1, 0, none⟩) 1 1, .slice none 0 0, .slice none 0 0] 39)).alloc
    (.cells #[.int .i64 8, .int .i64 0, .int .i64 0, .string ⟨#[116]⟩, .string ⟨#[]⟩, .slice none 0 0, .slice (some ⟨w.heap.size + 1 + 1, 0, none⟩) 1 1] 42)).alloc
    (.cells #[.slice (some ⟨w.heap.size + 1 + 1 + 1, 0, none⟩) 1 1] 45) := ⟨_, rfl⟩
  have hmk : ∀ w : World, (Instr.makeSlice 43 (.int .i64 1) (.int .i64 1)).run Tryd.prog w = .ok (.slice (some ⟨w.heap.size, 0, none⟩) 1 1) (w.alloc (.cells #[.int .i64 0, .int .i64 0, .int .i64 0, .string ⟨#[]⟩, .string ⟨#[]⟩, .slice none 0 0, .slice none 0 0] 42)) := fun _ => by kernel_rfl
  obtain ⟨hbx, hsx, hin, h4⟩ := tree_a w X hX
  have HX := Lib.hid hX
  have HBX := Lib.hid hbx
  have HIN := Lib.hid hin
  have H4 := Lib.hid h4
  have HS := Lib.hid (show_any X (htab.below hbx) hin small_a)
  have HT := Lib.hid htab
  clear hX hbx hsx hin h4 htab
  go_enter Tryd.func4, Tryd.ntmps4
  go_wp2_with fail
  rw [← HX.out]
  rw [fin_a] at HS
  obtain ⟨S, hS⟩ : ∃ S, S = strOf [116, 104, 114, 101, 97, 100, 32, 116, 32, 123, 32, 111, 117, 116, 32, 115, 32, 40, 32, 97, 32, 43, 32, 49, 32, 41, 32, 59, 32, 125] := ⟨_, rfl⟩
  have HS : Hid (Calls Tryd.prog 13 #[.agg #[.slice (some ⟨w.heap.size + 1 + 1 + 1, 0, none⟩) 1 1]] X fun r w' => r = .returned (.tuple #[.string S, .int .i64 0]) ∧ Below X.heap.size X w') := by rw [hS]; exact HS
  have hl : S.toList = [116, 104, 114, 101, 97, 100, 32, 116, 32, 123, 32, 111, 117, 116, 32, 115, 32, 40, 32, 97, 32, 43, 32, 49, 32, 41, 32, 59, 32, 125] := by rw [hS, strOf_toList]
  clear hS
  refine HS.out.mono ?_
  rintro e1 w1 ⟨rfl, hb1⟩
  have c4 : w1.cell? ⟨w.heap.size + 1 + 1 + 1 + 1, 0, none⟩ = some (.slice (some ⟨w.heap.size + 1 + 1 + 1, 0, none⟩) 1 1) := by
    rw [cell_of_row w1 _ 0 _ _ (0, 0) ((hb1.block _ (lt_of_heap H4.out)).trans H4.out)]; rfl
  have htab1 : TabW w1 := HT.out.below (HBX.out.trans (hb1.mono HBX.out.size))
  have HR := Lib.hid (right_any w1 htab1 (HIN.out.keep (fun b hlt => hb1.block b hlt) (fun b hlt => Nat.lt_of_lt_of_le hlt hb1.size)) small_a)
  rw [fin_a] at HR
  have HB1 := Lib.hid hb1
  clear hb1 htab1
  go_wp2_with fail
  refine HR.out.mono ?_
  rintro e2 w2 ⟨rfl, hb2⟩
  have HB2 := Lib.hid (HBX.out.trans ((HB1.out.trans (hb2.mono HB1.out.size)).mono HBX.out.size))
  clear hb2
  obtain ⟨Y, hY⟩ : ∃ Y : World, Y = w2.alloc (.cells #[.int .i64 0, .int .i64 0, .int .i64 0, .string ⟨#[]⟩, .string ⟨#[]⟩, .slice none 0 0, .slice none 0 0] 42) := ⟨_, rfl⟩
  have hby : Below w.heap.size w Y := by rw [hY]; exact HB2.out.alloc HB2.out.size _
  have hrow : Y.heap[w2.heap.size]? = some (.cells #[.int .i64 0, .int .i64 0, .int .i64 0, .string ⟨#[]⟩, .string ⟨#[]⟩, .slice none 0 0, .slice none 0 0] 42 (0, 0)) := by rw [hY]; exact heap_alloc_new _ _
  have hinz : DcsIn Y (· < Y.heap.size) [zD] (.slice (some ⟨w2.heap.size, 0, none⟩) 1 1) := dcs_one (e := zD) (lt_of_heap hrow) (by decide +kernel) (by decide +kernel) hrow (prs_nil _ _) (sms_nil _ _)
  have HR2 := Lib.hid (right_any Y (HT.out.below hby) hinz small_z)
  rw [fin_z] at HR2
  have HY := Lib.hid hY
  have HBY := Lib.hid hby
  clear hY hby hrow hinz
  go_wp2_with fail
  rw [← HY.out]
  refine HR2.out.mono ?_
  rintro e3 w3 ⟨rfl, hb3⟩
  have HB3 := Lib.hid (HBY.out.trans (hb3.mono HBY.out.size))
  clear hb3
  have HT1 := Lib.hid (showType_any w3 [91, 93, 105, 110, 116] (by simp))
  rw [fin_i] at HT1
  obtain ⟨S1, hS1⟩ : ∃ S1, S1 = strOf [91, 32, 93, 32, 105, 110, 116] := ⟨_, rfl⟩
  have HT1 : Hid (Calls Tryd.prog 10 #[.string ⟨#[91, 93, 105, 110, 116]⟩] w3 fun r w' => r = .returned (.string S1) ∧ Below w3.heap.size w3 w') := by rw [hS1]; exact HT1
  have hl1 : S1.toList = [91, 32, 93, 32, 105, 110, 116] := by rw [hS1, strOf_toList]
  clear hS1
  go_wp2_with fail
  refine HT1.out.mono ?_
  rintro e4 w4 ⟨rfl, hb4⟩
  have HB4 := Lib.hid (HB3.out.trans (hb4.mono HB3.out.size))
  clear hb4
  have HT2 := Lib.hid (showType_any w4 [120] (by simp))
  rw [fin_x] at HT2
  obtain ⟨S2, hS2⟩ : ∃ S2, S2 = strOf [] := ⟨_, rfl⟩
  have HT2 : Hid (Calls Tryd.prog 10 #[.string ⟨#[120]⟩] w4 fun r w' => r = .returned (.string S2) ∧ Below w4.heap.size w4 w') := by rw [hS2]; exact HT2
  have hl2 : S2.toList = [] := by rw [hS2, strOf_toList]
  clear hS2
  go_wp2_with fail
  refine HT2.out.mono ?_
  rintro e5 w5 ⟨rfl, hb5⟩
  have HB5 := Lib.hid (HB4.out.trans (hb5.mono HB4.out.size))
  clear hb5
  go_wp2
  go_ret
  exact ⟨rfl, HB5.out⟩
end Go.Proofs.YtihjdfbdpcghdaaDoor
