/- Xk; Xl; Xm; Xn -/
import Derived.Test.YtmbkjabjcphkbaaDoorZb2
section
/- ShowExpr, Show and Right answer the plain model. -/
set_option linter.unusedVariables false
namespace Go.Proofs.YtmbkjabjcphkbaaDoor
open Go.RowKit

set_option maxRecDepth 100000 in
theorem expr_writes {w : World} {g : Nat} (htab : TabW w) (e : Ex) {A : Option Addr} {n c : Nat} (hin : IsExs w (· < w.heap.size) e.args (.slice A n c)) (hs : smallEs 40000 e.args) (hn : e.name.length ≤ 40000) (hg : w.heap[g]? = some (.cells #[.int .i64 e.kind, .int .i64 e.pl, .int .i64 e.num, .string (strOf e.name), .slice A n c] 24 (0, 0))) : Writes 27 #[.pointer (some ⟨g, 0, none⟩)] w (penE e 2 0) := by
  intro wx Bc Ba hb hB hp
  have hk := (hb.block g (lt_of_heap hg)).trans hg
  have c0 : wx.cell? ⟨g, 0, none⟩ = some (.int .i64 e.kind) := by rw [cell_of_row wx g 0 _ _ (0, 0) hk]; rfl
  have c1 : wx.cell? ⟨g, 1, none⟩ = some (.int .i64 e.pl) := by rw [cell_of_row wx g 1 _ _ (0, 0) hk]; rfl
  have c2 : wx.cell? ⟨g, 2, none⟩ = some (.int .i64 e.num) := by rw [cell_of_row wx g 2 _ _ (0, 0) hk]; rfl
  have c3 : wx.cell? ⟨g, 3, none⟩ = some (.string (strOf e.name)) := by rw [cell_of_row wx g 3 _ _ (0, 0) hk]; rfl
  have c4 : wx.cell? ⟨g, 4, none⟩ = some (.slice A n c) := by rw [cell_of_row wx g 4 _ _ (0, 0) hk]; rfl
  have HT := Lib.hid (expr_step htab.tab e (reads_any htab.tab hin hs) hn wx Bc Ba _ [] 2 0 hb hB hp (by omega) (by omega) (by omega) (by omega))
  clear hk hg hin hs
  unfold penV at HT
  unfold penV
  clear hb hp
  go_enter Tryd.func27, Tryd.ntmps27
  go_wp2_with fail
  refine HT.out.mono ?_
  rintro e1 w1 hpost
  cases hR : adv [] (penE e 2 0) with
  | none =>
    rw [hR] at hpost
    obtain ⟨rfl, hch⟩ := hpost
    have HCH := Lib.hid hch
    clear hR hch
    unfold boom
    go_wp2
    exact ⟨rfl, rfl, HCH.out⟩
  | some T1 =>
    rw [hR] at hpost
    obtain ⟨rfl, u1, hwent⟩ := hpost
    have HWE := Lib.hid hwent
    have HR := Lib.hid hR
    clear hR hwent
    go_wp2
    go_end0
    first
      | exact ⟨rfl, u1, HWE.out⟩
      | (rw [HR.out]; exact ⟨rfl, u1, HWE.out⟩)
set_option maxRecDepth 100000 in
theorem showExpr_any (w : World) (htab : TabW w) (e : Ex) {v : Value} (hin : IsExs w (· < w.heap.size) e.args v) (hs : smallEs 40000 e.args) (hn : e.name.length ≤ 40000) :
    Calls Tryd.prog 13 #[.agg #[.int .i64 e.kind, .int .i64 e.pl, .int .i64 e.num, .string (strOf e.name), v]] w fun r w' => r = .returned (.tuple #[.string (strOf (fin (penE e 2 0)).1), .int .i64 (fin (penE e 2 0)).2]) ∧ Below w.heap.size w w' := by
  obtain ⟨A, c, rfl, hl, hM⟩ := hin.slice
  have hin2 : ∀ X, Below w.heap.size w X → IsExs X (· < X.heap.size) e.args (.slice A e.args.length c) := fun X hb => hin.keep (fun b hlt => hb.block b hlt) (fun b hlt => Nat.lt_of_lt_of_le hlt hb.size)
  obtain ⟨n, hn'⟩ : ∃ n, n = e.args.length := ⟨_, rfl⟩
  rw [← hn'] at hin2 ⊢
  clear hin hl hn'
  have hmf : ∀ (fn : Fn) (first cap : Array Value) (w : World), (Instr.makeFunc fn first cap).run Tryd.prog w = .ok (.func fn first cap) w := fun _ _ _ _ => rfl
  obtain ⟨X, hX⟩ : ∃ X : World, X = w.alloc (.cells #[.int .i64 e.kind, .int .i64 e.pl, .int .i64 e.num, .string (strOf e.name), .slice A n c] 24) := ⟨_, rfl⟩
  have hg : X.heap[w.heap.size]? = some (.cells #[.int .i64 e.kind, .int .i64 e.pl, .int .i64 e.num, .string (strOf e.name), .slice A n c] 24 (0, 0)) := by rw [hX]; exact heap_alloc_new _ _
  have hbx : Below w.heap.size w X := by rw [hX]; exact (Below.refl _ _).alloc (Nat.le_refl _) _
  have hsx : w.heap.size ≤ X.heap.size := hbx.size
  have HWR := Lib.hid (written_any 27 #[.pointer (some ⟨w.heap.size, 0, none⟩)] X (penE e 2 0) (fun _ _ => rfl) (expr_writes (htab.below hbx) e (hin2 X hbx) hs hn hg))
  have HX := Lib.hid hX
  have HBX := Lib.hid hbx
  clear hX hg hbx hsx
  go_enter Tryd.func13, Tryd.ntmps13
  go_wp2_with fail
  rw [← HX.out]
  refine HWR.out.mono ?_
  rintro e1 w1 ⟨rfl, hb1⟩
  have HB1 := Lib.hid (HBX.out.trans (hb1.mono HBX.out.size))
  clear hb1
  clear hin2
  go_wp2
  go_ret2
  exact ⟨rfl, HB1.out⟩
set_option maxRecDepth 100000 in
theorem prog_writes {w : World} {g : Nat} (htab : TabW w) {ds : List Dc} {A : Option Addr} {n c : Nat} (hin : DcsIn w (· < w.heap.size) ds (.slice A n c)) (hsm : ∀ (k : Nat) (hk : k < ds.length), smallDN ds[k]) (hg : w.heap[g]? = some (.cells #[.slice A n c] 39 (0, 0))) : Writes 35 #[.pointer (some ⟨g, 0, none⟩)] w (penP ds) := by
  intro wx Bc Ba hb hB hp
  have hk := (hb.block g (lt_of_heap hg)).trans hg
  have c0 : wx.cell? ⟨g, 0, none⟩ = some (.slice A n c) := by rw [cell_of_row wx g 0 _ _ (0, 0) hk]; rfl
  have HT := Lib.hid (program_any htab.tab hin hsm hb hB hp)
  clear hk hg hin hsm
  unfold penV at HT
  unfold penV
  clear hb hp
  go_enter Tryd.func35, Tryd.ntmps35
  go_wp2_with fail
  refine HT.out.mono ?_
  rintro e1 w1 hpost
  cases hR : adv [] (penP ds) with
  | none =>
    rw [hR] at hpost
    obtain ⟨rfl, hch⟩ := hpost
    have HCH := Lib.hid hch
    clear hR hch
    unfold boom
    go_wp2
    exact ⟨rfl, rfl, HCH.out⟩
  | some T1 =>
    rw [hR] at hpost
    obtain ⟨rfl, u1, hwent⟩ := hpost
    have HWE := Lib.hid hwent
    have HR := Lib.hid hR
    clear hR hwent
    go_wp2
    go_end0
    first
      | exact ⟨rfl, u1, HWE.out⟩
      | (rw [HR.out]; exact ⟨rfl, u1, HWE.out⟩)
set_option maxRecDepth 100000 in
theorem show_any (w : World) (htab : TabW w) {ds : List Dc} {v : Value} (hin : DcsIn w (· < w.heap.size) ds v) (hsm : ∀ (k : Nat) (hk : k < ds.length), smallDN ds[k]) :
    Calls Tryd.prog 20 #[.agg #[v]] w fun r w' => r = .returned (.tuple #[.string (strOf (fin (penP ds)).1), .int .i64 (fin (penP ds)).2]) ∧ Below w.heap.size w w' := by
  obtain ⟨A, c, _, _, rfl, _⟩ := id hin
  have hin2 : ∀ X, Below w.heap.size w X → DcsIn X (· < X.heap.size) ds (.slice A ds.length c) := fun X hb => hin.keep (fun b hlt => hb.block b hlt) (fun b hlt => Nat.lt_of_lt_of_le hlt hb.size)
  obtain ⟨n, hn'⟩ : ∃ n, n = ds.length := ⟨_, rfl⟩
  rw [← hn'] at hin2 ⊢
  clear hin hn'
  have hmf : ∀ (fn : Fn) (first cap : Array Value) (w : World), (Instr.makeFunc fn first cap).run Tryd.prog w = .ok (.func fn first cap) w := fun _ _ _ _ => rfl
  obtain ⟨X, hX⟩ : ∃ X : World, X = w.alloc (.cells #[.slice A n c] 39) := ⟨_, rfl⟩
  have hg : X.heap[w.heap.size]? = some (.cells #[.slice A n c] 39 (0, 0)) := by rw [hX]; exact heap_alloc_new _ _
  have hbx : Below w.heap.size w X := by rw [hX]; exact (Below.refl _ _).alloc (Nat.le_refl _) _
  have hsx : w.heap.size ≤ X.heap.size := hbx.size
  have HWR := Lib.hid (written_any 35 #[.pointer (some ⟨w.heap.size, 0, none⟩)] X (penP ds) (fun _ _ => rfl) (prog_writes (htab.below hbx) (hin2 X hbx) hsm hg))
  have HX := Lib.hid hX
  have HBX := Lib.hid hbx
  clear hX hg hbx hsx
  go_enter Tryd.func20, Tryd.ntmps20
  go_wp2_with fail
  rw [← HX.out]
  refine HWR.out.mono ?_
  rintro e1 w1 ⟨rfl, hb1⟩
  have HB1 := Lib.hid (HBX.out.trans (hb1.mono HBX.out.size))
  clear hb1
  clear hin2
  go_wp2
  go_ret2
  exact ⟨rfl, HB1.out⟩
theorem right_any (w : World) (htab : TabW w) {ds : List Dc} {v : Value} (hin : DcsIn w (· < w.heap.size) ds v) (hsm : ∀ (k : Nat) (hk : k < ds.length), smallDN ds[k]) :
    Calls Tryd.prog 25 #[.agg #[v]] w fun r w' => r = .returned (.bool (decide ((fin (penP ds)).2 = 0))) ∧ Below w.heap.size w w' := by
  obtain ⟨A, c, _, _, rfl, _⟩ := id hin
  obtain ⟨X, hX⟩ : ∃ X : World, X = w.alloc (.cells #[.slice A ds.length c] 39) := ⟨_, rfl⟩
  have hbx : Below w.heap.size w X := by rw [hX]; exact (Below.refl _ _).alloc (Nat.le_refl _) _
  have HS := Lib.hid (show_any X (htab.below hbx) (hin.keep (fun b hlt => hbx.block b hlt) (fun b hlt => Nat.lt_of_lt_of_le hlt hbx.size)) hsm)
  have HX := Lib.hid hX
  have HBX := Lib.hid hbx
  clear hin hsm hX hbx
  go_enter Tryd.func25, Tryd.ntmps25
  go_wp2_with fail
  rw [← HX.out]
  refine HS.out.mono ?_
  rintro e1 w1 ⟨rfl, hb1⟩
  have HB1 := Lib.hid (HBX.out.trans (hb1.mono HBX.out.size))
  clear hb1
  go_wp2
  go_ret
  refine ⟨?_, HB1.out⟩
  by_cases h : (fin (penP ds)).2 = 0 <;> simp [h]

end Go.Proofs.YtmbkjabjcphkbaaDoor
end
section
/- The trees of the texts that the document fixes, in memory. -/
set_option linter.unusedVariables false
namespace Go.Proofs.YtmbkjabjcphkbaaDoor
open Go.RowKit

def aE : Ex := .mk 10 0 0 [43] [.mk 4 0 0 [97] [], .mk 1 0 1 [] []]
def aS : Sm := .mk 9 0 [115] [] [aE] [] []
def aD : Dc := ⟨8, 0, 0, [116], [], [], [aS]⟩
def zD : Dc := ⟨0, 0, 0, [], [], [], []⟩
theorem fin_a : fin (penP [aD]) = ([116, 104, 114, 101, 97, 100, 32, 116, 32, 123, 32, 111, 117, 116, 32, 115, 32, 40, 32, 97, 32, 43, 32, 49, 32, 41, 32, 59, 32, 125], 0) := by decide +kernel
theorem fin_z : fin (penP [zD]) = ([], 23) := by decide +kernel
theorem fin_i : fin (tyT [91, 93, 105, 110, 116]) = ([91, 32, 93, 32, 105, 110, 116], 0) := by decide +kernel
theorem fin_x : fin (tyT [120]) = ([], 23) := by decide +kernel
theorem small_a : ∀ (k : Nat) (hk : k < [aD].length), smallDN [aD][k] := by
  intro k hk
  obtain rfl : k = 0 := by simp at hk; omega
  show smallDN aD
  unfold smallDN
  simp [aD, aS, aE, smallSs, smallS, smallEs, smallE]
theorem small_z : ∀ (k : Nat) (hk : k < [zD].length), smallDN [zD][k] := by
  intro k hk
  obtain rfl : k = 0 := by simp at hk; omega
  show smallDN zD
  unfold smallDN
  simp [zD, smallSs]
theorem exs_nil (w : World) (S : Nat → Prop) : IsExs w S [] (.slice none 0 0) :=
  .mk [] none 0 (fun _ => .bool false) (by simp) (by simp) (fun k hk => absurd hk (by simp)) (fun k hk => absurd hk (by simp))
theorem sms_nil (w : World) (S : Nat → Prop) : IsSms w S [] (.slice none 0 0) :=
  .mk [] none 0 (fun _ => .bool false) (fun _ => .bool false) (fun _ => .bool false) (by simp) (by simp) (fun k hk => absurd hk (by simp)) (fun k hk => absurd hk (by simp)) (fun k hk => absurd hk (by simp)) (fun k hk => absurd hk (by simp))
theorem prs_nil (w : World) (S : Nat → Prop) : PrsIn w S [] (.slice none 0 0) := ⟨none, 0, rfl, by simp, by simp, fun k hk => absurd hk (by simp)⟩
/-- one expression in a block of its own -/
theorem exs_one {w : World} {S : Nat → Prop} {b : Nat} {e : Ex} {v : Value} (hS : S b) (hl : e.name.length ≤ 140737488355328)
    (h : w.heap[b]? = some (.cells #[.int .i64 e.kind, .int .i64 e.pl, .int .i64 e.num, .string (strOf e.name), v] 24 (0, 0))) (hv : IsExs w S e.args v) : IsExs w S [e] (.slice (some ⟨b, 0, none⟩) 1 1) := by
  refine .mk [e] (some ⟨b, 0, none⟩) 1 (fun _ => v) (by simp) (by simp) (fun k hk => ?_) (fun k hk => ?_)
  · obtain rfl : k = 0 := by simp at hk; omega
    refine ⟨b, 0, rfl, hS, hl, ?_, ?_, ?_, ?_, ?_⟩
    · rw [cell_of_row w b _ _ _ (0, 0) h]; rfl
    · rw [cell_of_row w b _ _ _ (0, 0) h]; rfl
    · rw [cell_of_row w b _ _ _ (0, 0) h]; rfl
    · rw [cell_of_row w b _ _ _ (0, 0) h]; rfl
    · rw [cell_of_row w b _ _ _ (0, 0) h]; rfl
  · obtain rfl : k = 0 := by simp at hk; omega
    exact hv
/-- two leaves in a block of their own -/
theorem exs_two {w : World} {S : Nat → Prop} {b : Nat} {k1 p1 n1 k2 p2 n2 : Int} {s1 s2 : List UInt8} (hS : S b) (hl1 : s1.length ≤ 140737488355328) (hl2 : s2.length ≤ 140737488355328)
    (h : w.heap[b]? = some (.cells #[.int .i64 k1, .int .i64 p1, .int .i64 n1, .string (strOf s1), .slice none 0 0, .int .i64 k2, .int .i64 p2, .int .i64 n2, .string (strOf s2), .slice none 0 0] 24 (0, 0))) :
    IsExs w S [.mk k1 p1 n1 s1 [], .mk k2 p2 n2 s2 []] (.slice (some ⟨b, 0, none⟩) 2 2) := by
  refine .mk [.mk k1 p1 n1 s1 [], .mk k2 p2 n2 s2 []] (some ⟨b, 0, none⟩) 2 (fun _ => .slice none 0 0) (by simp) (by simp) (fun k hk => ?_) (fun k hk => ?_)
  · obtain rfl | rfl : k = 0 ∨ k = 1 := by simp at hk; omega
    · refine ⟨b, 0, rfl, hS, hl1, ?_, ?_, ?_, ?_, ?_⟩
      all_goals rw [cell_of_row w b _ _ _ (0, 0) h]; rfl
    · refine ⟨b, 0, rfl, hS, hl2, ?_, ?_, ?_, ?_, ?_⟩
      all_goals rw [cell_of_row w b _ _ _ (0, 0) h]; rfl
  · obtain rfl | rfl : k = 0 ∨ k = 1 := by simp at hk; omega
    · exact exs_nil _ _
    · exact exs_nil _ _
/-- one statement in a block of its own -/
theorem sms_one {w : World} {S : Nat → Prop} {b : Nat} {e : Sm} {v1 v2 v3 : Value} (hS : S b) (hl : e.name.length ≤ 140737488355328) (ht : e.type.length ≤ 140737488355328)
    (h : w.heap[b]? = some (.cells #[.int .i64 e.kind, .int .i64 e.pl, .string (strOf e.name), .string (strOf e.type), v1, v2, v3] 55 (0, 0))) (h1 : IsExs w S e.exprs v1) (h2 : IsSms w S e.body v2) (h3 : IsSms w S e.els v3) : IsSms w S [e] (.slice (some ⟨b, 0, none⟩) 1 1) := by
  refine .mk [e] (some ⟨b, 0, none⟩) 1 (fun _ => v1) (fun _ => v2) (fun _ => v3) (by simp) (by simp) (fun k hk => ?_) (fun k hk => ?_) (fun k hk => ?_) (fun k hk => ?_)
  · obtain rfl : k = 0 := by simp at hk; omega
    refine ⟨b, 0, rfl, hS, hl, ht, ?_, ?_, ?_, ?_, ?_, ?_, ?_⟩
    all_goals rw [cell_of_row w b _ _ _ (0, 0) h]; rfl
  · obtain rfl : k = 0 := by simp at hk; omega
    exact h1
  · obtain rfl : k = 0 := by simp at hk; omega
    exact h2
  · obtain rfl : k = 0 := by simp at hk; omega
    exact h3
/-- one declaration in a block of its own -/
theorem dcs_one {w : World} {S : Nat → Prop} {b : Nat} {e : Dc} {v1 v2 : Value} (hS : S b) (hl : e.name.length ≤ 140737488355328) (ht : e.type.length ≤ 140737488355328)
    (h : w.heap[b]? = some (.cells #[.int .i64 e.kind, .int .i64 e.pl, .int .i64 e.num, .string (strOf e.name), .string (strOf e.type), v1, v2] 53 (0, 0))) (h1 : PrsIn w S e.pairs v1) (h2 : IsSms w S e.body v2) : DcsIn w S [e] (.slice (some ⟨b, 0, none⟩) 1 1) := by
  refine ⟨some ⟨b, 0, none⟩, 1, fun _ => v1, fun _ => v2, rfl, by simp, by simp, fun k hk => ?_, fun k hk => ?_, fun k hk => ?_⟩
  · obtain rfl : k = 0 := by simp at hk; omega
    refine ⟨b, 0, rfl, hS, hl, ht, ?_, ?_, ?_, ?_, ?_, ?_, ?_⟩
    all_goals rw [cell_of_row w b _ _ _ (0, 0) h]; rfl
  · obtain rfl : k = 0 := by simp at hk; omega
    exact h1
  · obtain rfl : k = 0 := by simp at hk; omega
    exact h2

end Go.Proofs.YtmbkjabjcphkbaaDoor
end
section
/- The texts that the document fixes. -/
set_option linter.unusedVariables false
namespace Go.Proofs.YtmbkjabjcphkbaaDoor
open Go.RowKit

theorem heap_at (w : World) (o : Obj) {k : Nat} (h : k = w.heap.size) : (w.alloc o).heap[k]? = some o := by subst h; exact heap_alloc_new _ _
theorem tree_a (w : World) (X : World) (hX : X = ((((w.alloc (.cells #[.int .i64 4, .int .i64 0, .int .i64 0, .string ⟨#[97]⟩, .slice none 0 0, .int .i64 1, .int .i64 0, .int .i64 1, .string ⟨#[]⟩, .slice none 0 0] 24)).alloc
    (.cells #[.int .i64 10, .int .i64 0, .int .i64 0, .string ⟨#[43]⟩, .slice (some ⟨w.heap.size, 0, none⟩) 2 2] 24)).alloc
    (.cells #[.int .i64 9, .int .i64 0, .string ⟨#[115]⟩, .string ⟨#[]⟩, .slice (some ⟨w.heap.size + 1, 0, none⟩) 1 1, .slice none 0 0, .slice none 0 0] 55)).alloc
    (.cells #[.int .i64 8, .int .i64 0, .int .i64 0, .string ⟨#[116]⟩, .string ⟨#[]⟩, .slice none 0 0, .slice (some ⟨w.heap.size + 1 + 1, 0, none⟩) 1 1] 53)).alloc
    (.cells #[.slice (some ⟨w.heap.size + 1 + 1 + 1, 0, none⟩) 1 1] 39)) :
    Below w.heap.size w X ∧ X.heap.size = w.heap.size + 5 ∧ DcsIn X (· < X.heap.size) [aD] (.slice (some ⟨w.heap.size + 1 + 1 + 1, 0, none⟩) 1 1) ∧ X.heap[w.heap.size + 1 + 1 + 1 + 1]? = some (.cells #[.slice (some ⟨w.heap.size + 1 + 1 + 1, 0, none⟩) 1 1] 39 (0, 0)) := by
  have hsz : X.heap.size = w.heap.size + 5 := by rw [hX]; simp
  have h0 : X.heap[w.heap.size]? = some (.cells #[.int .i64 4, .int .i64 0, .int .i64 0, .string ⟨#[97]⟩, .slice none 0 0, .int .i64 1, .int .i64 0, .int .i64 1, .string ⟨#[]⟩, .slice none 0 0] 24 (0, 0)) := by
    rw [hX, Below.heap_alloc _ _ _ (by simp <;> omega), Below.heap_alloc _ _ _ (by simp <;> omega), Below.heap_alloc _ _ _ (by simp <;> omega), Below.heap_alloc _ _ _ (by simp)]
    exact heap_alloc_new _ _
  have h1 : X.heap[w.heap.size + 1]? = some (.cells #[.int .i64 10, .int .i64 0, .int .i64 0, .string ⟨#[43]⟩, .slice (some ⟨w.heap.size, 0, none⟩) 2 2] 24 (0, 0)) := by
    rw [hX, Below.heap_alloc _ _ _ (by simp <;> omega), Below.heap_alloc _ _ _ (by simp <;> omega), Below.heap_alloc _ _ _ (by simp)]
    exact heap_at _ _ (by simp)
  have h2 : X.heap[w.heap.size + 1 + 1]? = some (.cells #[.int .i64 9, .int .i64 0, .string ⟨#[115]⟩, .string ⟨#[]⟩, .slice (some ⟨w.heap.size + 1, 0, none⟩) 1 1, .slice none 0 0, .slice none 0 0] 55 (0, 0)) := by
    rw [hX, Below.heap_alloc _ _ _ (by simp <;> omega), Below.heap_alloc _ _ _ (by simp)]
    exact heap_at _ _ (by simp)
  have h3 : X.heap[w.heap.size + 1 + 1 + 1]? = some (.cells #[.int .i64 8, .int .i64 0, .int .i64 0, .string ⟨#[116]⟩, .string ⟨#[]⟩, .slice none 0 0, .slice (some ⟨w.heap.size + 1 + 1, 0, none⟩) 1 1] 53 (0, 0)) := by
    rw [hX, Below.heap_alloc _ _ _ (by simp)]
    exact heap_at _ _ (by simp)
  have h4 : X.heap[w.heap.size + 1 + 1 + 1 + 1]? = some (.cells #[.slice (some ⟨w.heap.size + 1 + 1 + 1, 0, none⟩) 1 1] 39 (0, 0)) := by
    rw [hX]
    exact heap_at _ _ (by simp)
  refine ⟨?_, hsz, ?_, h4⟩
  · rw [hX]
    exact ((((((Below.refl _ _).alloc (Nat.le_refl _) _).alloc (by simp) _).alloc (by simp <;> omega) _).alloc (by simp <;> omega) _).alloc (by simp <;> omega) _)
  · refine dcs_one (e := aD) (by omega) (by decide +kernel) (by decide +kernel) h3 (prs_nil _ _) ?_
    refine sms_one (e := aS) (by omega) (by decide +kernel) (by decide +kernel) h2 ?_ (sms_nil _ _) (sms_nil _ _)
    refine exs_one (e := aE) (by omega) (by decide +kernel) h1 ?_
    exact exs_two (by omega) (by simp) (by simp) h0
set_option maxRecDepth 100000 in
theorem alive_any (w : World) (htab : TabW w) :
    Calls Tryd.prog 10 #[] w fun r w' => r = .returned (.bool true) ∧ Below w.heap.size w w' := by
  obtain ⟨X, hX⟩ : ∃ X : World, X = ((((w.alloc (.cells #[.int .i64 4, .int .i64 0, .int .i64 0, .string ⟨#[97]⟩, .slice none 0 0, .int .i64 1, .int .i64 0, .int .i64 1, .string ⟨#[]⟩, .slice none 0 0] 24)).alloc
    (.cells #[.int .i64 10, .int .i64 0, .int .i64 0, .string ⟨#[43]⟩, .slice (some ⟨w.heap.size, 0, none⟩) 2 2] 24)).alloc
    (.cells #[.int .i64 9, .int .i64 0, .string ⟨#[115]⟩, .string ⟨#[]⟩, .slice (some ⟨w.heap.size + 1, 0, none⟩) 1 1, .slice none 0 0, .slice none 0 0] 55)).alloc
    (.cells #[.int .i64 8, .int .i64 0, .int .i64 0, .string ⟨#[116]⟩, .string ⟨#[]⟩, .slice none 0 0, .slice (some ⟨w.heap.size + 1 + 1, 0, none⟩) 1 1] 53)).alloc
    (.cells #[.slice (some ⟨w.heap.size + 1 + 1 + 1, 0, none⟩) 1 1] 39) := ⟨_, rfl⟩
  have hmk : ∀ w : World, (Instr.makeSlice 37 (.int .i64 1) (.int .i64 1)).run Tryd.prog w = .ok (.slice (some ⟨w.heap.size, 0, none⟩) 1 1) (w.alloc (.cells #[.int .i64 0, .int .i64 0, .int .i64 0, .string ⟨#[]⟩, .string ⟨#[]⟩, .slice none 0 0, .slice none 0 0] 53)) := fun _ => by kernel_rfl
  obtain ⟨hbx, hsx, hin, h4⟩ := tree_a w X hX
  have HX := Lib.hid hX
  have HBX := Lib.hid hbx
  have HIN := Lib.hid hin
  have H4 := Lib.hid h4
  have HS := Lib.hid (show_any X (htab.below hbx) hin small_a)
  have HT := Lib.hid htab
  clear hX hbx hsx hin h4 htab
  go_enter Tryd.func10, Tryd.ntmps10
  go_wp2_with fail
  rw [← HX.out]
  rw [fin_a] at HS
  obtain ⟨S, hS⟩ : ∃ S, S = strOf [116, 104, 114, 101, 97, 100, 32, 116, 32, 123, 32, 111, 117, 116, 32, 115, 32, 40, 32, 97, 32, 43, 32, 49, 32, 41, 32, 59, 32, 125] := ⟨_, rfl⟩
  have HS : Hid (Calls Tryd.prog 20 #[.agg #[.slice (some ⟨w.heap.size + 1 + 1 + 1, 0, none⟩) 1 1]] X fun r w' => r = .returned (.tuple #[.string S, .int .i64 0]) ∧ Below X.heap.size X w') := by rw [hS]; exact HS
  have hl : S.toList = [116, 104, 114, 101, 97, 100, 32, 116, 32, 123, 32, 111, 117, 116, 32, 115, 32, 40, 32, 97, 32, 43, 32, 49, 32, 41, 32, 59, 32, 125] := by rw [hS, strOf_toList]
  clear hS
  refine HS.out.mono ?_
  rintro e1 w1 ⟨rfl, hb1⟩
  have c4 : w1.cell? ⟨w.heap.size + 1 + 1 + 1 + 1, 0, none⟩ = some (.slice (some ⟨w.heap.size + 1 + 1 + 1, 0, none⟩) 1 1) := by
    rw [cell_of_row w1 _ 0 _ _ (0, 0) ((hb1.block _ (lt_of_heap H4.out)).trans H4.out)]; rfl
  have htab1 : TabW w1 := HT.out.below (HBX.out.trans (hb1.mono HBX.out.size))
  have HR := Lib.hid (right_any w1 htab1 (HIN.out.keep (fun b hlt => hb1.block b hlt) (fun b hlt => Nat.lt_of_lt_of_le hlt hb1.size)) small_a)
  rw [fin_a] at HR
  have HB1 := Lib.hid hb1
  clear hb1 htab1
  go_wp2_with fail
  refine HR.out.mono ?_
  rintro e2 w2 ⟨rfl, hb2⟩
  have HB2 := Lib.hid (HBX.out.trans ((HB1.out.trans (hb2.mono HB1.out.size)).mono HBX.out.size))
  clear hb2
  obtain ⟨Y, hY⟩ : ∃ Y : World, Y = w2.alloc (.cells #[.int .i64 0, .int .i64 0, .int .i64 0, .string ⟨#[]⟩, .string ⟨#[]⟩, .slice none 0 0, .slice none 0 0] 53) := ⟨_, rfl⟩
  have hby : Below w.heap.size w Y := by rw [hY]; exact HB2.out.alloc HB2.out.size _
  have hrow : Y.heap[w2.heap.size]? = some (.cells #[.int .i64 0, .int .i64 0, .int .i64 0, .string ⟨#[]⟩, .string ⟨#[]⟩, .slice none 0 0, .slice none 0 0] 53 (0, 0)) := by rw [hY]; exact heap_alloc_new _ _
  have hinz : DcsIn Y (· < Y.heap.size) [zD] (.slice (some ⟨w2.heap.size, 0, none⟩) 1 1) := dcs_one (e := zD) (lt_of_heap hrow) (by decide +kernel) (by decide +kernel) hrow (prs_nil _ _) (sms_nil _ _)
  have HR2 := Lib.hid (right_any Y (HT.out.below hby) hinz small_z)
  rw [fin_z] at HR2
  have HY := Lib.hid hY
  have HBY := Lib.hid hby
  clear hY hby hrow hinz
  go_wp2_with fail
  rw [← HY.out]
  refine HR2.out.mono ?_
  rintro e3 w3 ⟨rfl, hb3⟩
  have HB3 := Lib.hid (HBY.out.trans (hb3.mono HBY.out.size))
  clear hb3
  have HT1 := Lib.hid (showType_any w3 [91, 93, 105, 110, 116] (by simp))
  rw [fin_i] at HT1
  obtain ⟨S1, hS1⟩ : ∃ S1, S1 = strOf [91, 32, 93, 32, 105, 110, 116] := ⟨_, rfl⟩
  have HT1 : Hid (Calls Tryd.prog 16 #[.string ⟨#[91, 93, 105, 110, 116]⟩] w3 fun r w' => r = .returned (.string S1) ∧ Below w3.heap.size w3 w') := by rw [hS1]; exact HT1
  have hl1 : S1.toList = [91, 32, 93, 32, 105, 110, 116] := by rw [hS1, strOf_toList]
  clear hS1
  go_wp2_with fail
  refine HT1.out.mono ?_
  rintro e4 w4 ⟨rfl, hb4⟩
  have HB4 := Lib.hid (HB3.out.trans (hb4.mono HB3.out.size))
  clear hb4
  have HT2 := Lib.hid (showType_any w4 [120] (by simp))
  rw [fin_x] at HT2
  obtain ⟨S2, hS2⟩ : ∃ S2, S2 = strOf [] := ⟨_, rfl⟩
  have HT2 : Hid (Calls Tryd.prog 16 #[.string ⟨#[120]⟩] w4 fun r w' => r = .returned (.string S2) ∧ Below w4.heap.size w4 w') := by rw [hS2]; exact HT2
  have hl2 : S2.toList = [] := by rw [hS2, strOf_toList]
  clear hS2
  go_wp2_with fail
  refine HT2.out.mono ?_
  rintro e5 w5 ⟨rfl, hb5⟩
  have HB5 := Lib.hid (HB4.out.trans (hb5.mono HB4.out.size))
  clear hb5
  go_wp2
  go_ret
  exact ⟨rfl, HB5.out⟩

end Go.Proofs.YtmbkjabjcphkbaaDoor
end
section
/- A type's text and a declaration's that has it. -/
set_option linter.unusedVariables false
namespace Go.Proofs.YtmbkjabjcphkbaaDoor
open Go.RowKit

def vD (t : List UInt8) : Dc := ⟨4, 0, 0, [103], t, [], []⟩
theorem ty_cases (t : List UInt8) : tyT t = none ∨ ∃ T, tyT t = some T ∧ T ≠ [] ∧ joinT T ≠ [] ∧ (joinT T).length ≤ 20 ∧ T.length ≤ 3 := by
  unfold tyT
  split
  · split
    · rename_i h
      have h16 : t.tail.length ≤ 16 := by unfold nameB at h; simp only [decide_eq_true_eq] at h; exact h.2.2
      refine .inr ⟨_, rfl, by simp, by simp [joinT], ?_, by simp⟩
      simp [joinT] at h16 ⊢; omega
    · exact .inl rfl
  · split
    · exact .inr ⟨_, rfl, by simp, by simp [joinT], by simp [joinT], by simp⟩
    · split
      · rename_i h
        rcases h with rfl | rfl
        · exact .inr ⟨_, rfl, by simp, by simp [joinT], by simp [joinT], by simp⟩
        · exact .inr ⟨_, rfl, by simp, by simp [joinT], by simp [joinT], by simp⟩
      · exact .inl rfl
theorem penP_v (t : List UInt8) : penP [vD t] = cat (some [wordS 1, [103]]) (cat (tyT t) (some [[59]])) := by
  unfold penP
  rw [need_yes (by simp), penDs, penDs, cat_nil_r]
  unfold vD
  rw [penD_4 0 0 [103] t [] [] (by decide +kernel), need_yes ⟨rfl, rfl, rfl⟩, cat_nil_r]
theorem fin_some {T : List (List UInt8)} (h : fits T) : fin (some T) = (joinT T, 0) := by unfold fin lim; simp [h]
theorem types_plain (t : List UInt8) : (fin (tyT t) = ([], 23) ∧ fin (penP [vD t]) = ([], 23)) ∨
    ∃ s, s ≠ [] ∧ s.length ≤ 20 ∧ fin (tyT t) = (s, 0) ∧ fin (penP [vD t]) = ([118, 97, 114, 32, 103, 32] ++ s ++ [32, 59], 0) := by
  rcases ty_cases t with h | ⟨T, h, hT, hj, hl, hn⟩
  · exact .inl ⟨by rw [h]; rfl, by rw [penP_v, h]; rfl⟩
  · refine .inr ⟨joinT T, hj, hl, by rw [h]; exact fin_some ⟨by omega, by omega⟩, ?_⟩
    have e : joinT ([wordS 1, [103]] ++ (T ++ [[59]])) = [118, 97, 114, 32, 103, 32] ++ joinT T ++ [32, 59] := by
      rw [joinT_append (by simp) (by simp), joinT_append hT (by simp)]
      simp [joinT, wordS]
    rw [penP_v, h, cat_some, cat_some, fin_some ⟨by rw [e]; simp; omega, by simp; omega⟩, e]
theorem small_v {t : List UInt8} (h : t.length ≤ 1000) : ∀ (k : Nat) (hk : k < [vD t].length), smallDN [vD t][k] := by
  intro k hk
  obtain rfl : k = 0 := by simp at hk; omega
  show smallDN (vD t)
  unfold smallDN vD
  simp [smallSs]; omega
theorem strOf_bk (s : ByteArray) : strOf s.data.toList = s := by cases s; rfl
set_option maxRecDepth 100000 in
theorem treeTypes_none (w : World) (htab : TabW w) (t : ByteArray) (hn : ¬ (1000 : Int) < t.size) (h1 : fin (tyT t.data.toList) = ([], 23)) (h2 : fin (penP [vD t.data.toList]) = ([], 23)) :
    Calls Tryd.prog 8 #[.string t] w fun r w' => r = .returned (.bool true) ∧ Below w.heap.size w w' := by
    have HAL := Lib.hid (alive_any w htab)
    have HT := Lib.hid htab
    have HE1 := Lib.hid h1
    have HE2 := Lib.hid h2
    clear h1 h2
    have HSM := Lib.hid (small_v (t := t.data.toList) (by rw [← Lib.size_eq]; omega))
    clear htab
    go_enter Tryd.func8, Tryd.ntmps8
    go_wp2_with fail
    refine HAL.out.mono ?_
    rintro e1 w1 ⟨rfl, hb1⟩
    have HB1 := Lib.hid hb1
    have HTY := Lib.hid (showType_any w1 t.data.toList (by rw [← Lib.size_eq]; omega))
    rw [strOf_bk, HE1.out] at HTY
    obtain ⟨S, hS⟩ : ∃ S, S = strOf [] := ⟨_, rfl⟩
    have HTY : Hid (Calls Tryd.prog 16 #[.string t] w1 fun r w' => r = .returned (.string S) ∧ Below w1.heap.size w1 w') := by rw [hS]; exact HTY
    have hl : S.toList = [] := by rw [hS, strOf_toList]
    clear hS
    clear hb1
    go_wp2_with fail
    refine HTY.out.mono ?_
    rintro e2 w2 ⟨rfl, hb2⟩
    have HB2 := Lib.hid (HB1.out.trans (hb2.mono HB1.out.size))
    clear hb2
    obtain ⟨Y, hY⟩ : ∃ Y : World, Y = w2.alloc (.cells #[.int .i64 4, .int .i64 0, .int .i64 0, .string ⟨#[103]⟩, .string t, .slice none 0 0, .slice none 0 0] 53) := ⟨_, rfl⟩
    have hby : Below w.heap.size w Y := by rw [hY]; exact HB2.out.alloc HB2.out.size _
    have hrow : Y.heap[w2.heap.size]? = some (.cells #[.int .i64 4, .int .i64 0, .int .i64 0, .string ⟨#[103]⟩, .string t, .slice none 0 0, .slice none 0 0] 53 (0, 0)) := by rw [hY]; exact heap_alloc_new _ _
    have hrow2 : Y.heap[w2.heap.size]? = some (.cells #[.int .i64 4, .int .i64 0, .int .i64 0, .string ⟨#[103]⟩, .string (strOf t.data.toList), .slice none 0 0, .slice none 0 0] 53 (0, 0)) := by rw [strOf_bk]; exact hrow
    have hin : DcsIn Y (· < Y.heap.size) [vD t.data.toList] (.slice (some ⟨w2.heap.size, 0, none⟩) 1 1) := dcs_one (e := vD t.data.toList) (lt_of_heap hrow) (by show ([103] : List UInt8).length ≤ _; decide) (by show t.data.toList.length ≤ _; rw [← Lib.size_eq]; omega) hrow2 (prs_nil _ _) (sms_nil _ _)
    have HSH := Lib.hid (show_any Y (HT.out.below hby) hin HSM.out)
    rw [HE2.out] at HSH
    have HSH : Hid (Calls Tryd.prog 20 #[.agg #[.slice (some ⟨w2.heap.size, 0, none⟩) 1 1]] Y fun r w' => r = .returned (.tuple #[.string (strOf []), .int .i64 23]) ∧ Below Y.heap.size Y w') := HSH
    obtain ⟨P, hP⟩ : ∃ P, P = strOf [] := ⟨_, rfl⟩
    rw [← hP] at HSH
    have hl2 : P.toList = [] := by rw [hP, strOf_toList]
    clear hP
    have HY := Lib.hid hY
    have HBY := Lib.hid hby
    clear hY hby hrow hrow2 hin
    go_wp2_with fail
    rw [← HY.out]
    refine HSH.out.mono ?_
    rintro e3 w3 ⟨rfl, hb3⟩
    have HB3 := Lib.hid (HBY.out.trans (hb3.mono HBY.out.size))
    clear hb3
    go_wp2
    go_ret
    exact ⟨rfl, HB3.out⟩
set_option maxRecDepth 100000 in
theorem treeTypes_some (w : World) (htab : TabW w) (t : ByteArray) (hn : ¬ (1000 : Int) < t.size) (s : List UInt8) (hs : s ≠ []) (hs2 : s.length ≤ 20) (h1 : fin (tyT t.data.toList) = (s, 0)) (h2 : fin (penP [vD t.data.toList]) = ([118, 97, 114, 32, 103, 32] ++ s ++ [32, 59], 0)) :
    Calls Tryd.prog 8 #[.string t] w fun r w' => r = .returned (.bool true) ∧ Below w.heap.size w w' := by
    have HAL := Lib.hid (alive_any w htab)
    have HT := Lib.hid htab
    have HE1 := Lib.hid h1
    have HE2 := Lib.hid h2
    clear h1 h2
    have HSM := Lib.hid (small_v (t := t.data.toList) (by rw [← Lib.size_eq]; omega))
    clear htab
    go_enter Tryd.func8, Tryd.ntmps8
    go_wp2_with fail
    refine HAL.out.mono ?_
    rintro e1 w1 ⟨rfl, hb1⟩
    have HB1 := Lib.hid hb1
    have HTY := Lib.hid (showType_any w1 t.data.toList (by rw [← Lib.size_eq]; omega))
    rw [strOf_bk, HE1.out] at HTY
    obtain ⟨S, hS⟩ : ∃ S, S = strOf s := ⟨_, rfl⟩
    have HTY : Hid (Calls Tryd.prog 16 #[.string t] w1 fun r w' => r = .returned (.string S) ∧ Below w1.heap.size w1 w') := by rw [hS]; exact HTY
    have hl : S.toList.isEmpty = false := by rw [hS, strOf_toList]; cases s with
      | nil => exact absurd rfl hs
      | cons a r => rfl
    have hq : S.size ≤ 20 := by rw [hS, Lib.size_eq, strOf_data]; exact hs2
    have hq1 : ¬ 9223372036854775807 < 6 + S.size := by omega
    have hq2 : ¬ 9223372036854775807 < 6 + S.size + 2 := by omega
    clear hs2 hq
    have HS := Lib.hid hS
    clear hS hs
    clear hb1
    go_wp2_with fail
    refine HTY.out.mono ?_
    rintro e2 w2 ⟨rfl, hb2⟩
    have HB2 := Lib.hid (HB1.out.trans (hb2.mono HB1.out.size))
    clear hb2
    obtain ⟨Y, hY⟩ : ∃ Y : World, Y = w2.alloc (.cells #[.int .i64 4, .int .i64 0, .int .i64 0, .string ⟨#[103]⟩, .string t, .slice none 0 0, .slice none 0 0] 53) := ⟨_, rfl⟩
    have hby : Below w.heap.size w Y := by rw [hY]; exact HB2.out.alloc HB2.out.size _
    have hrow : Y.heap[w2.heap.size]? = some (.cells #[.int .i64 4, .int .i64 0, .int .i64 0, .string ⟨#[103]⟩, .string t, .slice none 0 0, .slice none 0 0] 53 (0, 0)) := by rw [hY]; exact heap_alloc_new _ _
    have hrow2 : Y.heap[w2.heap.size]? = some (.cells #[.int .i64 4, .int .i64 0, .int .i64 0, .string ⟨#[103]⟩, .string (strOf t.data.toList), .slice none 0 0, .slice none 0 0] 53 (0, 0)) := by rw [strOf_bk]; exact hrow
    have hin : DcsIn Y (· < Y.heap.size) [vD t.data.toList] (.slice (some ⟨w2.heap.size, 0, none⟩) 1 1) := dcs_one (e := vD t.data.toList) (lt_of_heap hrow) (by show ([103] : List UInt8).length ≤ _; decide) (by show t.data.toList.length ≤ _; rw [← Lib.size_eq]; omega) hrow2 (prs_nil _ _) (sms_nil _ _)
    have HSH := Lib.hid (show_any Y (HT.out.below hby) hin HSM.out)
    rw [HE2.out] at HSH
    have HSH : Hid (Calls Tryd.prog 20 #[.agg #[.slice (some ⟨w2.heap.size, 0, none⟩) 1 1]] Y fun r w' => r = .returned (.tuple #[.string (strOf ([118, 97, 114, 32, 103, 32] ++ s ++ [32, 59])), .int .i64 0]) ∧ Below Y.heap.size Y w') := HSH
    obtain ⟨P, hP⟩ : ∃ P, P = strOf ([118, 97, 114, 32, 103, 32] ++ s ++ [32, 59]) := ⟨_, rfl⟩
    rw [← hP] at HSH
    have hP2 : P = ⟨#[118, 97, 114, 32, 103, 32]⟩ ++ S ++ ⟨#[32, 59]⟩ := by rw [hP, HS.out]; exact ByteArray.ext (by simp [strOf])
    have HP := Lib.hid (show (P.toList == ((⟨#[118, 97, 114, 32, 103, 32]⟩ : ByteArray) ++ S ++ ⟨#[32, 59]⟩).toList) = true by rw [hP2]; exact beq_self_eq_true _)
    clear hP2
    clear hP
    have HY := Lib.hid hY
    have HBY := Lib.hid hby
    clear hY hby hrow hrow2 hin
    go_wp2_with fail
    rw [← HY.out]
    refine HSH.out.mono ?_
    rintro e3 w3 ⟨rfl, hb3⟩
    have HB3 := Lib.hid (HBY.out.trans (hb3.mono HBY.out.size))
    clear hb3
    go_wp2
    go_ret
    exact ⟨by rw [HP.out]; rfl, HB3.out⟩
set_option maxRecDepth 100000 in
theorem treeTypes_walk (w : World) (htab : TabW w) (t : ByteArray) :
    Calls Tryd.prog 8 #[.string t] w fun r w' => r = .returned (.bool true) ∧ Below w.heap.size w w' := by
  by_cases h : (1000 : Int) < t.size
  · have HAL := Lib.hid (alive_any w htab)
    clear htab
    go_enter Tryd.func8, Tryd.ntmps8
    go_wp2_with fail
    refine HAL.out.mono ?_
    rintro e1 w1 ⟨rfl, hb1⟩
    have HB1 := Lib.hid hb1
    clear hb1
    go_wp2
    go_ret
    exact ⟨rfl, HB1.out⟩
  · rcases types_plain t.data.toList with ⟨e1, e2⟩ | ⟨s, hs, hs2, e1, e2⟩
    · exact treeTypes_none w htab t h e1 e2
    · exact treeTypes_some w htab t h s hs hs2 e1 e2

end Go.Proofs.YtmbkjabjcphkbaaDoor
end
