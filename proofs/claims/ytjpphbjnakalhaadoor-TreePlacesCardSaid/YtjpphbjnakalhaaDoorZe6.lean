/- Xl Xm Un -/
import Derived.Test.YtjpphbjnakalhaaDoorZe3
import Derived.StillTailTactics
import Derived.IntWalk
import Derived.Maps.AppendAt
section
set_option linter.unusedVariables false
namespace Go.Proofs.YtjpphbjnakalhaaDoor
open Go.RowKit
def aE : Ex := .mk 10 0 0 [43] [.mk 4 0 0 [97] [], .mk 1 0 1 [] []]
def aS : Sm := .mk 9 0 [115] [] [aE] [] []
def aD : Dc := ⟨8, 0, 0, [116], [], [], [aS]⟩
def zD : Dc := ⟨0, 0, 0, [], [], [], []⟩
theorem fin_a : fin (penP [aD]) = ([116, 104, 114, 101, 97, 100, 32, 116, 32, 123, 32, 111, 117, 116, 32, 115, 32, 40, 32, 97, 32, 43, 32, 49, 32, 41, 32, 59, 32, 125], 0) := by decide +kernel
theorem fin_z : fin (penP [zD]) = ([], 23) := by decide +kernel
theorem fin_i : fin (tyT [91, 93, 105, 110, 116]) = ([91, 32, 93, 32, 105, 110, 116], 0) := by decide +kernel
theorem fin_x : fin (tyT [120]) = ([], 23) := by decide +kernel
theorem small_a : ∀ (k : Nat) (hk : k < [aD].length), smallDN [aD][k] := by
  intro k hk
  obtain rfl : k = 0 := by simp at hk; omega
  show smallDN aD
  unfold smallDN
  simp [aD, aS, aE, smallSs, smallS, smallEs, smallE]
theorem small_z : ∀ (k : Nat) (hk : k < [zD].length), smallDN [zD][k] := by
  intro k hk
  obtain rfl : k = 0 := by simp at hk; omega
  show smallDN zD
  unfold smallDN
  simp [zD, smallSs]
theorem exs_nil (w : World) (S : Nat → Prop) : IsExs w S [] (.slice none 0 0) :=
  .mk [] none 0 (fun _ => .bool false) (by simp) (by simp) (fun k hk => absurd hk (by simp)) (fun k hk => absurd hk (by simp))
theorem sms_nil (w : World) (S : Nat → Prop) : IsSms w S [] (.slice none 0 0) :=
  .mk [] none 0 (fun _ => .bool false) (fun _ => .bool false) (fun _ => .bool false) (by simp) (by simp) (fun k hk => absurd hk (by simp)) (fun k hk => absurd hk (by simp)) (fun k hk => absurd hk (by simp)) (fun k hk => absurd hk (by simp))
theorem prs_nil (w : World) (S : Nat → Prop) : PrsIn w S [] (.slice none 0 0) := ⟨none, 0, rfl, by simp, by simp, fun k hk => absurd hk (by simp)⟩
theorem exs_one {w : World} {S : Nat → Prop} {b : Nat} {e : Ex} {v : Value} (hS : S b) (hl : e.name.length ≤ 140737488355328)
    (h : w.heap[b]? = some (.cells #[.int .i64 e.kind, .int .i64 e.pl, .int .i64 e.num, .string (strOf e.name), v] 40 (0, 0))) (hv : IsExs w S e.args v) : IsExs w S [e] (.slice (some ⟨b, 0, none⟩) 1 1) := by
  refine .mk [e] (some ⟨b, 0, none⟩) 1 (fun _ => v) (by simp) (by simp) (fun k hk => ?_) (fun k hk => ?_)
  · obtain rfl : k = 0 := by simp at hk; omega
    refine ⟨b, 0, rfl, hS, hl, ?_, ?_, ?_, ?_, ?_⟩
    · rw [cell_of_row w b _ _ _ (0, 0) h]; rfl
    · rw [cell_of_row w b _ _ _ (0, 0) h]; rfl
    · rw [cell_of_row w b _ _ _ (0, 0) h]; rfl
    · rw [cell_of_row w b _ _ _ (0, 0) h]; rfl
    · rw [cell_of_row w b _ _ _ (0, 0) h]; rfl
  · obtain rfl : k = 0 := by simp at hk; omega
    exact hv
theorem exs_two {w : World} {S : Nat → Prop} {b : Nat} {k1 p1 n1 k2 p2 n2 : Int} {s1 s2 : List UInt8} (hS : S b) (hl1 : s1.length ≤ 140737488355328) (hl2 : s2.length ≤ 140737488355328)
    (h : w.heap[b]? = some (.cells #[.int .i64 k1, .int .i64 p1, .int .i64 n1, .string (strOf s1), .slice none 0 0, .int .i64 k2, .int .i64 p2, .int .i64 n2, .string (strOf s2), .slice none 0 0] 40 (0, 0))) :
    IsExs w S [.mk k1 p1 n1 s1 [], .mk k2 p2 n2 s2 []] (.slice (some ⟨b, 0, none⟩) 2 2) := by
  refine .mk [.mk k1 p1 n1 s1 [], .mk k2 p2 n2 s2 []] (some ⟨b, 0, none⟩) 2 (fun _ => .slice none 0 0) (by simp) (by simp) (fun k hk => ?_) (fun k hk => ?_)
  · obtain rfl | rfl : k = 0 ∨ k = 1 := by simp at hk; omega
    · refine ⟨b, 0, rfl, hS, hl1, ?_, ?_, ?_, ?_, ?_⟩
      all_goals rw [cell_of_row w b _ _ _ (0, 0) h]; rfl
    · refine ⟨b, 0, rfl, hS, hl2, ?_, ?_, ?_, ?_, ?_⟩
      all_goals rw [cell_of_row w b _ _ _ (0, 0) h]; rfl
  · obtain rfl | rfl : k = 0 ∨ k = 1 := by simp at hk; omega
    · exact exs_nil _ _
    · exact exs_nil _ _
theorem sms_one {w : World} {S : Nat → Prop} {b : Nat} {e : Sm} {v1 v2 v3 : Value} (hS : S b) (hl : e.name.length ≤ 140737488355328) (ht : e.type.length ≤ 140737488355328)
    (h : w.heap[b]? = some (.cells #[.int .i64 e.kind, .int .i64 e.pl, .string (strOf e.name), .string (strOf e.type), v1, v2, v3] 34 (0, 0))) (h1 : IsExs w S e.exprs v1) (h2 : IsSms w S e.body v2) (h3 : IsSms w S e.els v3) : IsSms w S [e] (.slice (some ⟨b, 0, none⟩) 1 1) := by
  refine .mk [e] (some ⟨b, 0, none⟩) 1 (fun _ => v1) (fun _ => v2) (fun _ => v3) (by simp) (by simp) (fun k hk => ?_) (fun k hk => ?_) (fun k hk => ?_) (fun k hk => ?_)
  · obtain rfl : k = 0 := by simp at hk; omega
    refine ⟨b, 0, rfl, hS, hl, ht, ?_, ?_, ?_, ?_, ?_, ?_, ?_⟩
    all_goals rw [cell_of_row w b _ _ _ (0, 0) h]; rfl
  · obtain rfl : k = 0 := by simp at hk; omega
    exact h1
  · obtain rfl : k = 0 := by simp at hk; omega
    exact h2
  · obtain rfl : k = 0 := by simp at hk; omega
    exact h3
theorem dcs_one {w : World} {S : Nat → Prop} {b : Nat} {e : Dc} {v1 v2 : Value} (hS : S b) (hl : e.name.length ≤ 140737488355328) (ht : e.type.length ≤ 140737488355328)
    (h : w.heap[b]? = some (.cells #[.int .i64 e.kind, .int .i64 e.pl, .int .i64 e.num, .string (strOf e.name), .string (strOf e.type), v1, v2] 31 (0, 0))) (h1 : PrsIn w S e.pairs v1) (h2 : IsSms w S e.body v2) : DcsIn w S [e] (.slice (some ⟨b, 0, none⟩) 1 1) := by
  refine ⟨some ⟨b, 0, none⟩, 1, fun _ => v1, fun _ => v2, rfl, by simp, by simp, fun k hk => ?_, fun k hk => ?_, fun k hk => ?_⟩
  · obtain rfl : k = 0 := by simp at hk; omega
    refine ⟨b, 0, rfl, hS, hl, ht, ?_, ?_, ?_, ?_, ?_, ?_, ?_⟩
    all_goals rw [cell_of_row w b _ _ _ (0, 0) h]; rfl
  · obtain rfl : k = 0 := by simp at hk; omega
    exact h1
  · obtain rfl : k = 0 := by simp at hk; omega
    exact h2
end Go.Proofs.YtjpphbjnakalhaaDoor
end
section
set_option linter.unusedVariables false
namespace Go.Proofs.YtjpphbjnakalhaaDoor
open Go.RowKit
theorem heap_at (w : World) (o : Obj) {k : Nat} (h : k = w.heap.size) : (w.alloc o).heap[k]? = some o := by subst h; exact heap_alloc_new _ _
theorem tree_a (w : World) (X : World) (hX : X = ((((w.alloc (.cells #[.int .i64 4, .int .i64 0, .int .i64 0, .string ⟨#[97]⟩, .slice none 0 0, .int .i64 1, .int .i64 0, .int .i64 1, .string ⟨#[]⟩, .slice none 0 0] 40)).alloc
    (.cells #[.int .i64 10, .int .i64 0, .int .i64 0, .string ⟨#[43]⟩, .slice (some ⟨w.heap.size, 0, none⟩) 2 2] 40)).alloc
    (.cells #[.int .i64 9, .int .i64 0, .string ⟨#[115]⟩, .string ⟨#[]⟩, .slice (some ⟨w.heap.size + 1, 0, none⟩) 1 1, .slice none 0 0, .slice none 0 0] 34)).alloc
    (.cells #[.int .i64 8, .int .i64 0, .int .i64 0, .string ⟨#[116]⟩, .string ⟨#[]⟩, .slice none 0 0, .slice (some ⟨w.heap.size + 1 + 1, 0, none⟩) 1 1] 31)).alloc
    (.cells #[.slice (some ⟨w.heap.size + 1 + 1 + 1, 0, none⟩) 1 1] 24)) :
    Below w.heap.size w X ∧ X.heap.size = w.heap.size + 5 ∧ DcsIn X (· < X.heap.size) [aD] (.slice (some ⟨w.heap.size + 1 + 1 + 1, 0, none⟩) 1 1) ∧ X.heap[w.heap.size + 1 + 1 + 1 + 1]? = some (.cells #[.slice (some ⟨w.heap.size + 1 + 1 + 1, 0, none⟩) 1 1] 24 (0, 0)) := by
  have hsz : X.heap.size = w.heap.size + 5 := by rw [hX]; simp
  have h0 : X.heap[w.heap.size]? = some (.cells #[.int .i64 4, .int .i64 0, .int .i64 0, .string ⟨#[97]⟩, .slice none 0 0, .int .i64 1, .int .i64 0, .int .i64 1, .string ⟨#[]⟩, .slice none 0 0] 40 (0, 0)) := by
    rw [hX, Below.heap_alloc _ _ _ (by simp <;> omega), Below.heap_alloc _ _ _ (by simp <;> omega), Below.heap_alloc _ _ _ (by simp <;> omega), Below.heap_alloc _ _ _ (by simp)]
    exact heap_alloc_new _ _
  have h1 : X.heap[w.heap.size + 1]? = some (.cells #[.int .i64 10, .int .i64 0, .int .i64 0, .string ⟨#[43]⟩, .slice (some ⟨w.heap.size, 0, none⟩) 2 2] 40 (0, 0)) := by
    rw [hX, Below.heap_alloc _ _ _ (by simp <;> omega), Below.heap_alloc _ _ _ (by simp <;> omega), Below.heap_alloc _ _ _ (by simp)]
    exact heap_at _ _ (by simp)
  have h2 : X.heap[w.heap.size + 1 + 1]? = some (.cells #[.int .i64 9, .int .i64 0, .string ⟨#[115]⟩, .string ⟨#[]⟩, .slice (some ⟨w.heap.size + 1, 0, none⟩) 1 1, .slice none 0 0, .slice none 0 0] 34 (0, 0)) := by
    rw [hX, Below.heap_alloc _ _ _ (by simp <;> omega), Below.heap_alloc _ _ _ (by simp)]
    exact heap_at _ _ (by simp)
  have h3 : X.heap[w.heap.size + 1 + 1 + 1]? = some (.cells #[.int .i64 8, .int .i64 0, .int .i64 0, .string ⟨#[116]⟩, .string ⟨#[]⟩, .slice none 0 0, .slice (some ⟨w.heap.size + 1 + 1, 0, none⟩) 1 1] 31 (0, 0)) := by
    rw [hX, Below.heap_alloc _ _ _ (by simp)]
    exact heap_at _ _ (by simp)
  have h4 : X.heap[w.heap.size + 1 + 1 + 1 + 1]? = some (.cells #[.slice (some ⟨w.heap.size + 1 + 1 + 1, 0, none⟩) 1 1] 24 (0, 0)) := by
    rw [hX]
    exact heap_at _ _ (by simp)
  refine ⟨?_, hsz, ?_, h4⟩
  · rw [hX]
    exact ((((((Below.refl _ _).alloc (Nat.le_refl _) _).alloc (by simp) _).alloc (by simp <;> omega) _).alloc (by simp <;> omega) _).alloc (by simp <;> omega) _)
  · refine dcs_one (e := aD) (by omega) (by decide +kernel) (by decide +kernel) h3 (prs_nil _ _) ?_
    refine sms_one (e := aS) (by omega) (by decide +kernel) (by decide +kernel) h2 ?_ (sms_nil _ _) (sms_nil _ _)
    refine exs_one (e := aE) (by omega) (by decide +kernel) h1 ?_
    exact exs_two (by omega) (by simp) (by simp) h0
set_option maxRecDepth 100000 in
theorem alive_any (w : World) (htab : TabW w) :
    Calls Tryd.prog 4 #[] w fun r w' => r = .returned (.bool true) ∧ Below w.heap.size w w' := by
  obtain ⟨X, hX⟩ : ∃ X : World, X = ((((w.alloc (.cells #[.int .i64 4, .int .i64 0, .int .i64 0, .string ⟨#[97]⟩, .slice none 0 0, .int .i64 1, .int .i64 0, .int .i64 1, .string ⟨#[]⟩, .slice none 0 0] 40)).alloc
    (.cells #[.int .i64 10, .int .i64 0, .int .i64 0, .string ⟨#[43]⟩, .slice (some ⟨w.heap.size, 0, none⟩) 2 2] 40)).alloc
    (.cells #[.int .i64 9, .int .i64 0, .string ⟨#[115]⟩, .string ⟨#[]⟩, .slice (some ⟨w.heap.size + 1, 0, none⟩) 1 1, .slice none 0 0, .slice none 0 0] 34)).alloc
    (.cells #[.int .i64 8, .int .i64 0, .int .i64 0, .string ⟨#[116]⟩, .string ⟨#[]⟩, .slice none 0 0, .slice (some ⟨w.heap.size + 1 + 1, 0, none⟩) 1 1] 31)).alloc
    (.cells #[.slice (some ⟨w.heap.size + 1 + 1 + 1, 0, none⟩) 1 1] 24) := ⟨_, rfl⟩
  have hmk : ∀ w : World, (Instr.makeSlice 22 (.int .i64 1) (.int .i64 1)).run Tryd.prog w = .ok (.slice (some ⟨w.heap.size, 0, none⟩) 1 1) (w.alloc (.cells #[.int .i64 0, .int .i64 0, .int .i64 0, .string ⟨#[]⟩, .string ⟨#[]⟩, .slice none 0 0, .slice none 0 0] 31)) := fun _ => by kernel_rfl
  obtain ⟨hbx, hsx, hin, h4⟩ := tree_a w X hX
  have HX := Lib.hid hX
  have HBX := Lib.hid hbx
  have HIN := Lib.hid hin
  have H4 := Lib.hid h4
  have HS := Lib.hid (show_any X (htab.below hbx) hin small_a)
  have HT := Lib.hid htab
  clear hX hbx hsx hin h4 htab
  go_enter Tryd.func4, Tryd.ntmps4
  go_wp2_with fail
  rw [← HX.out]
  rw [fin_a] at HS
  obtain ⟨S, hS⟩ : ∃ S, S = strOf [116, 104, 114, 101, 97, 100, 32, 116, 32, 123, 32, 111, 117, 116, 32, 115, 32, 40, 32, 97, 32, 43, 32, 49, 32, 41, 32, 59, 32, 125] := ⟨_, rfl⟩
  have HS : Hid (Calls Tryd.prog 7 #[.agg #[.slice (some ⟨w.heap.size + 1 + 1 + 1, 0, none⟩) 1 1]] X fun r w' => r = .returned (.tuple #[.string S, .int .i64 0]) ∧ Below X.heap.size X w') := by rw [hS]; exact HS
  have hl : S.toList = [116, 104, 114, 101, 97, 100, 32, 116, 32, 123, 32, 111, 117, 116, 32, 115, 32, 40, 32, 97, 32, 43, 32, 49, 32, 41, 32, 59, 32, 125] := by rw [hS, strOf_toList]
  clear hS
  refine HS.out.mono ?_
  rintro e1 w1 ⟨rfl, hb1⟩
  have c4 : w1.cell? ⟨w.heap.size + 1 + 1 + 1 + 1, 0, none⟩ = some (.slice (some ⟨w.heap.size + 1 + 1 + 1, 0, none⟩) 1 1) := by
    rw [cell_of_row w1 _ 0 _ _ (0, 0) ((hb1.block _ (lt_of_heap H4.out)).trans H4.out)]; rfl
  have htab1 : TabW w1 := HT.out.below (HBX.out.trans (hb1.mono HBX.out.size))
  have HR := Lib.hid (right_any w1 htab1 (HIN.out.keep (fun b hlt => hb1.block b hlt) (fun b hlt => Nat.lt_of_lt_of_le hlt hb1.size)) small_a)
  rw [fin_a] at HR
  have HB1 := Lib.hid hb1
  clear hb1 htab1
  go_wp2_with fail
  refine HR.out.mono ?_
  rintro e2 w2 ⟨rfl, hb2⟩
  have HB2 := Lib.hid (HBX.out.trans ((HB1.out.trans (hb2.mono HB1.out.size)).mono HBX.out.size))
  clear hb2
  obtain ⟨Y, hY⟩ : ∃ Y : World, Y = w2.alloc (.cells #[.int .i64 0, .int .i64 0, .int .i64 0, .string ⟨#[]⟩, .string ⟨#[]⟩, .slice none 0 0, .slice none 0 0] 31) := ⟨_, rfl⟩
  have hby : Below w.heap.size w Y := by rw [hY]; exact HB2.out.alloc HB2.out.size _
  have hrow : Y.heap[w2.heap.size]? = some (.cells #[.int .i64 0, .int .i64 0, .int .i64 0, .string ⟨#[]⟩, .string ⟨#[]⟩, .slice none 0 0, .slice none 0 0] 31 (0, 0)) := by rw [hY]; exact heap_alloc_new _ _
  have hinz : DcsIn Y (· < Y.heap.size) [zD] (.slice (some ⟨w2.heap.size, 0, none⟩) 1 1) := dcs_one (e := zD) (lt_of_heap hrow) (by decide +kernel) (by decide +kernel) hrow (prs_nil _ _) (sms_nil _ _)
  have HR2 := Lib.hid (right_any Y (HT.out.below hby) hinz small_z)
  rw [fin_z] at HR2
  have HY := Lib.hid hY
  have HBY := Lib.hid hby
  clear hY hby hrow hinz
  go_wp2_with fail
  rw [← HY.out]
  refine HR2.out.mono ?_
  rintro e3 w3 ⟨rfl, hb3⟩
  have HB3 := Lib.hid (HBY.out.trans (hb3.mono HBY.out.size))
  clear hb3
  have HT1 := Lib.hid (showType_any w3 [91, 93, 105, 110, 116] (by simp))
  rw [fin_i] at HT1
  obtain ⟨S1, hS1⟩ : ∃ S1, S1 = strOf [91, 32, 93, 32, 105, 110, 116] := ⟨_, rfl⟩
  have HT1 : Hid (Calls Tryd.prog 9 #[.string ⟨#[91, 93, 105, 110, 116]⟩] w3 fun r w' => r = .returned (.string S1) ∧ Below w3.heap.size w3 w') := by rw [hS1]; exact HT1
  have hl1 : S1.toList = [91, 32, 93, 32, 105, 110, 116] := by rw [hS1, strOf_toList]
  clear hS1
  go_wp2_with fail
  refine HT1.out.mono ?_
  rintro e4 w4 ⟨rfl, hb4⟩
  have HB4 := Lib.hid (HB3.out.trans (hb4.mono HB3.out.size))
  clear hb4
  have HT2 := Lib.hid (showType_any w4 [120] (by simp))
  rw [fin_x] at HT2
  obtain ⟨S2, hS2⟩ : ∃ S2, S2 = strOf [] := ⟨_, rfl⟩
  have HT2 : Hid (Calls Tryd.prog 9 #[.string ⟨#[120]⟩] w4 fun r w' => r = .returned (.string S2) ∧ Below w4.heap.size w4 w') := by rw [hS2]; exact HT2
  have hl2 : S2.toList = [] := by rw [hS2, strOf_toList]
  clear hS2
  go_wp2_with fail
  refine HT2.out.mono ?_
  rintro e5 w5 ⟨rfl, hb5⟩
  have HB5 := Lib.hid (HB4.out.trans (hb5.mono HB4.out.size))
  clear hb5
  go_wp2
  go_ret
  exact ⟨rfl, HB5.out⟩
end Go.Proofs.YtjpphbjnakalhaaDoor
end
section
set_option linter.unusedVariables false
namespace Go.Proofs.YtjpphbjnakalhaaDoor
open Go.RowKit
def prsV : List Pr → List Value
  | p :: ps => .string (strOf p.name) :: .string (strOf p.type) :: prsV ps
  | [] => []
theorem prsV_len : ∀ ps : List Pr, (prsV ps).length = ps.length * 2
  | [] => rfl
  | p :: ps => by simp [prsV, prsV_len ps]; omega
theorem prsV_get0 : ∀ (ps : List Pr) (k : Nat) (hk : k < ps.length), (prsV ps)[k * 2]? = some (.string (strOf ps[k].name))
  | p :: ps, 0, _ => rfl
  | p :: ps, k + 1, hk => by
    rw [show (k + 1) * 2 = k * 2 + 1 + 1 from by omega]
    exact prsV_get0 ps k (by simpa using hk)
theorem prsV_get1 : ∀ (ps : List Pr) (k : Nat) (hk : k < ps.length), (prsV ps)[k * 2 + 1]? = some (.string (strOf ps[k].type))
  | p :: ps, 0, _ => rfl
  | p :: ps, k + 1, hk => by
    rw [show (k + 1) * 2 + 1 = k * 2 + 1 + 1 + 1 from by omega]
    exact prsV_get1 ps k (by simpa using hk)
theorem prsV_one (ps : List Pr) : ∀ u ∈ prsV ps, u.oneCell' = true := by
  induction ps with
  | nil => intro u hu; simp [prsV] at hu
  | cons p ps ih =>
    intro u hu
    simp [prsV] at hu
    rcases hu with rfl | rfl | hu
    · rfl
    · rfl
    · exact ih u hu
theorem prsV_cell {w : World} {b off : Nat} {ps : List Pr} (h : ∀ (k : Nat) (hk : k < ps.length), w.cell? ⟨b, off + k * 2, none⟩ = some (.string (strOf ps[k].name)) ∧ w.cell? ⟨b, off + k * 2 + 1, none⟩ = some (.string (strOf ps[k].type))) :
    ∀ j u, (prsV ps)[j]? = some u → w.cell? ((⟨b, off, none⟩ : Addr).add j) = some u := by
  intro j u hj
  have hlt : j < ps.length * 2 := by
    rw [← prsV_len]
    rcases Nat.lt_or_ge j (prsV ps).length with h1 | h1
    · exact h1
    · rw [List.getElem?_eq_none h1] at hj; cases hj
  rw [add_pl]
  rcases Nat.mod_two_eq_zero_or_one j with hm | hm
  · have e : j = j / 2 * 2 := by omega
    rw [e, prsV_get0 ps (j / 2) (by omega)] at hj
    rw [e, (h (j / 2) (by omega)).1]
    exact hj
  · have e : j = j / 2 * 2 + 1 := by omega
    rw [e, prsV_get1 ps (j / 2) (by omega)] at hj
    rw [e, show off + (j / 2 * 2 + 1) = off + j / 2 * 2 + 1 from by omega, (h (j / 2) (by omega)).2]
    exact hj
theorem info_pr : (Tryd.prog.info? 44).map (fun i => (i.zero, i.size, i.bytes)) = some (some (.agg #[.string ⟨#[]⟩, .string ⟨#[]⟩]), 2, 32) := by kernel_rfl
theorem prs_of_row {w : World} {base : Nat} {v : Value} {ps : List Pr} (hs : ∀ (k : Nat) (hk : k < ps.length), ps[k].name.length ≤ 140737488355328 ∧ ps[k].type.length ≤ 140737488355328)
    (h : w.ownsRow base 44 2 v ps.length (prsV ps)) : PrsIn w (fun b => base ≤ b ∧ b < w.heap.size ∧ v.ownBlock = some b) ps v := by
  have hlt := h.lt
  have hcell : ∀ (g : Nat), v.ownBlock = some g → ∀ (j : Nat) (u : Value), (prsV ps)[j]? = some u → w.cell? ⟨g, 0 + j, none⟩ = some u := fun g hg j u hu => by
    have := h.cells hg j u hu
    rw [add_pl] at this
    exact this
  rcases h.2 with ⟨rfl, h2⟩ | ⟨g, cap, cur, rfl, hbg, hg, hc1, hc2, _⟩
  · exact ⟨none, 0, by rw [h2], by omega, by omega, fun k hk => absurd hk (by omega)⟩
  · refine ⟨_, cap, rfl, hc1, by unfold maxLen at hc2; omega, fun k hk => ⟨g, 0, rfl, ⟨hbg, (hlt g rfl).2, rfl⟩, (hs k hk).1, (hs k hk).2, ?_, ?_⟩⟩
    · exact hcell g rfl (k * 2) _ (prsV_get0 ps k hk)
    · exact hcell g rfl (k * 2 + 1) _ (prsV_get1 ps k hk)
theorem wpList_append_prs {ops : Array Oper} {rest : List Oper} {o : Oper} {a : Act} {w : World} {Q : Exit → Act → World → Prop} (hgd : o.guard = none) (s x : Operand)
    (ho : o.op = .call { callee := .builtin .append, args := #[s, x], argTypes := #[28, 28] })
    (g : Nat) (hs : a.eval s = .slice (some ⟨g, 0, none⟩) 0 0) (hg : w.heap[g]? = some (.cells #[] 44 (0, 0))) (hgs : g < w.heap.size) (S : Nat → Prop) (ps : List Pr) (v : Value) (hx : a.eval x = v) (hp : PrsIn w S ps v) (hn : ps.length ≤ 1000000)
    (h : ∀ v' w', PrsIn w' (fun b => g ≤ b ∧ b < w'.heap.size ∧ (b = g ∨ w.heap.size ≤ b)) ps v' → w.grownBy w' (some g) → wpList Tryd.prog ops Q rest (a.put o.dst v') w') : wpList Tryd.prog ops Q (o :: rest) a w := by
  obtain ⟨i0, hi, hz0, hz1, hz2⟩ := info_parts info_pr
  obtain ⟨A, c, rfl, hc, hM, hA⟩ := hp
  have hrow : w.ownsRow g 44 2 (.slice (some ⟨g, 0, none⟩) 0 0) 0 [] := ⟨rfl, .inr ⟨g, 0, #[], rfl, Nat.le_refl _, hg, Nat.le_refl _, by unfold maxLen; omega, rfl, rfl⟩⟩
  have hsm : ∀ (k : Nat) (hk : k < ps.length), ps[k].name.length ≤ 140737488355328 ∧ ps[k].type.length ≤ 140737488355328 := fun k hk => by
    obtain ⟨_, _, _, _, q1, q2, _⟩ := hA k hk
    exact ⟨q1, q2⟩
  have hfin : ∀ v' w', w'.ownsRow g 44 2 v' (0 + ps.length) ([] ++ prsV ps) → w.grownBy w' (Value.slice (some ⟨g, 0, none⟩) 0 0).ownBlock → (v'.ownBlock = (Value.slice (some ⟨g, 0, none⟩) 0 0).ownBlock ∨ v'.ownBlock = some w.heap.size) → wpList Tryd.prog ops Q rest (a.put o.dst v') w' := by
    intro v' w' h1 h2 h3
    rw [Nat.zero_add, List.nil_append] at h1
    refine h v' w' ((prs_of_row hsm h1).keep (fun _ _ => rfl) (fun b hb => ⟨hb.1, hb.2.1, ?_⟩)) h2
    rcases h3 with h3 | h3
    · left
      have := hb.2.2
      rw [h3] at this
      simpa [Value.ownBlock] using this.symm
    · right
      have := hb.2.2
      rw [h3] at this
      have e : w.heap.size = b := by simpa using this
      omega
  cases A with
  | none =>
    have h0 : ps = [] := by
      cases ps with
      | nil => rfl
      | cons p ps =>
        obtain ⟨_, _, q, _⟩ := hA 0 (by simp)
        cases q
    subst h0
    have hr : (Builtin.append_ #[28, 28] o.type #[.slice (some ⟨g, 0, none⟩) 0 0, .slice none 0 c]).run Tryd.prog w = .ok (.slice (some ⟨g, 0, none⟩) 0 0) w := by
      simp [Builtin.append_, run_underlying Tryd.underlying28, sizeOf, typeInfo, hi, Builtin.lenOf, Builtin.firstCells, loadCells, loadCellsFrom, storeCells]
    refine wpList_plain hgd fun K hK => ?_
    unfold Oper.wp execOp
    simp only [ho, resolve, invoke, builtin, Sem.run_bind, Sem.run_pure, Result.andThen_ok, List.map_toArray, List.map_cons, List.map_nil, hs, hx, List.length_nil, hr]
    exact hK _ _ (hfin _ w hrow ⟨rfl, rfl, rfl, Nat.le_refl _, fun _ _ _ => rfl⟩ (.inl rfl))
  | some ad =>
    by_cases hz : ps = []
    · subst hz
      exact wpList_append_own_at w hgd s x 28 ho g 44 i0 _ 2 32 Tryd.underlying28 hi hz0 hz1 hz2 rfl (by decide) _ 0 [] hs hrow ad 0 c [] hx rfl (fun j u hj => by simp at hj) (fun u hu => by simp at hu) (by unfold maxLen; omega) (by omega) (by omega) fun v' w' h1 h2 _ h4 => hfin v' w' (by simpa [prsV] using h1) h2 h4
    · have hpos : 0 < ps.length := by
        cases ps with
        | nil => exact absurd rfl hz
        | cons p ps => simp
      obtain ⟨b, off, hb, _⟩ := hA 0 hpos
      injection hb with hb
      subst hb
      have hcells : ∀ (k : Nat) (hk : k < ps.length), w.cell? ⟨b, off + k * 2, none⟩ = some (.string (strOf ps[k].name)) ∧ w.cell? ⟨b, off + k * 2 + 1, none⟩ = some (.string (strOf ps[k].type)) := fun k hk => by
        obtain ⟨b', off', e, _, _, _, c0, c1⟩ := hA k hk
        cases e
        exact ⟨c0, c1⟩
      exact wpList_append_own_at w hgd s x 28 ho g 44 i0 _ 2 32 Tryd.underlying28 hi hz0 hz1 hz2 rfl (by decide) _ 0 [] hs hrow ⟨b, off, none⟩ ps.length c (prsV ps) hx (prsV_len ps) (prsV_cell hcells) (prsV_one ps) (by unfold maxLen; omega) (by omega) (by omega) fun v' w' h1 h2 _ h4 => hfin v' w' h1 h2 h4
end Go.Proofs.YtjpphbjnakalhaaDoor
end
