/- Xk -/
import Derived.Test.YtihjdfbdpcghdaaDoorZe9
import Derived.IntWalk
set_option linter.unusedVariables false
namespace Go.Proofs.YtihjdfbdpcghdaaDoor
open Go.RowKit
set_option maxRecDepth 100000 in
theorem expr_writes {w : World} {g : Nat} (htab : TabW w) (e : Ex) {A : Option Addr} {n c : Nat} (hin : IsExs w (· < w.heap.size) e.args (.slice A n c)) (hs : smallEs 40000 e.args) (hn : e.name.length ≤ 40000) (hg : w.heap[g]? = some (.cells #[.int .i64 e.kind, .int .i64 e.pl, .int .i64 e.num, .string (strOf e.name), .slice A n c] 24 (0, 0))) : Writes 16 #[.pointer (some ⟨g, 0, none⟩)] w (penE e 2 0) := by
  intro wx Bc Ba hb hB hp
  have hk := (hb.block g (lt_of_heap hg)).trans hg
  have c0 : wx.cell? ⟨g, 0, none⟩ = some (.int .i64 e.kind) := by rw [cell_of_row wx g 0 _ _ (0, 0) hk]; rfl
  have c1 : wx.cell? ⟨g, 1, none⟩ = some (.int .i64 e.pl) := by rw [cell_of_row wx g 1 _ _ (0, 0) hk]; rfl
  have c2 : wx.cell? ⟨g, 2, none⟩ = some (.int .i64 e.num) := by rw [cell_of_row wx g 2 _ _ (0, 0) hk]; rfl
  have c3 : wx.cell? ⟨g, 3, none⟩ = some (.string (strOf e.name)) := by rw [cell_of_row wx g 3 _ _ (0, 0) hk]; rfl
  have c4 : wx.cell? ⟨g, 4, none⟩ = some (.slice A n c) := by rw [cell_of_row wx g 4 _ _ (0, 0) hk]; rfl
  have HT := Lib.hid (expr_step htab.tab e (reads_any htab.tab hin hs) hn wx Bc Ba _ [] 2 0 hb hB hp (by omega) (by omega) (by omega) (by omega))
  clear hk hg hin hs
  unfold penV at HT
  unfold penV
  clear hb hp
  go_enter Tryd.func16, Tryd.ntmps16
  go_wp2_with fail
  refine HT.out.mono ?_
  rintro e1 w1 hpost
  cases hR : adv [] (penE e 2 0) with
  | none =>
    rw [hR] at hpost
    obtain ⟨rfl, hch⟩ := hpost
    have HCH := Lib.hid hch
    clear hR hch
    unfold boom
    go_wp2
    exact ⟨rfl, rfl, HCH.out⟩
  | some T1 =>
    rw [hR] at hpost
    obtain ⟨rfl, u1, hwent⟩ := hpost
    have HWE := Lib.hid hwent
    have HR := Lib.hid hR
    clear hR hwent
    go_wp2
    go_end0
    first
      | exact ⟨rfl, u1, HWE.out⟩
      | (rw [HR.out]; exact ⟨rfl, u1, HWE.out⟩)
set_option maxRecDepth 100000 in
theorem showExpr_any (w : World) (htab : TabW w) (e : Ex) {v : Value} (hin : IsExs w (· < w.heap.size) e.args v) (hs : smallEs 40000 e.args) (hn : e.name.length ≤ 40000) :
    Calls Tryd.prog 7 #[.agg #[.int .i64 e.kind, .int .i64 e.pl, .int .i64 e.num, .string (strOf e.name), v]] w fun r w' => r = .returned (.tuple #[.string (strOf (fin (penE e 2 0)).1), .int .i64 (fin (penE e 2 0)).2]) ∧ Below w.heap.size w w' := by
  obtain ⟨A, c, rfl, hl, hM⟩ := hin.slice
  have hin2 : ∀ X, Below w.heap.size w X → IsExs X (· < X.heap.size) e.args (.slice A e.args.length c) := fun X hb => hin.keep (fun b hlt => hb.block b hlt) (fun b hlt => Nat.lt_of_lt_of_le hlt hb.size)
  obtain ⟨n, hn'⟩ : ∃ n, n = e.args.length := ⟨_, rfl⟩
  rw [← hn'] at hin2 ⊢
  clear hin hl hn'
  have hmf : ∀ (fn : Fn) (first cap : Array Value) (w : World), (Instr.makeFunc fn first cap).run Tryd.prog w = .ok (.func fn first cap) w := fun _ _ _ _ => rfl
  obtain ⟨X, hX⟩ : ∃ X : World, X = w.alloc (.cells #[.int .i64 e.kind, .int .i64 e.pl, .int .i64 e.num, .string (strOf e.name), .slice A n c] 24) := ⟨_, rfl⟩
  have hg : X.heap[w.heap.size]? = some (.cells #[.int .i64 e.kind, .int .i64 e.pl, .int .i64 e.num, .string (strOf e.name), .slice A n c] 24 (0, 0)) := by rw [hX]; exact heap_alloc_new _ _
  have hbx : Below w.heap.size w X := by rw [hX]; exact (Below.refl _ _).alloc (Nat.le_refl _) _
  have hsx : w.heap.size ≤ X.heap.size := hbx.size
  have HWR := Lib.hid (written_any 16 #[.pointer (some ⟨w.heap.size, 0, none⟩)] X (penE e 2 0) (fun _ _ => rfl) (expr_writes (htab.below hbx) e (hin2 X hbx) hs hn hg))
  have HX := Lib.hid hX
  have HBX := Lib.hid hbx
  clear hX hg hbx hsx
  go_enter Tryd.func7, Tryd.ntmps7
  go_wp2_with fail
  rw [← HX.out]
  refine HWR.out.mono ?_
  rintro e1 w1 ⟨rfl, hb1⟩
  have HB1 := Lib.hid (HBX.out.trans (hb1.mono HBX.out.size))
  clear hb1
  clear hin2
  go_wp2
  go_ret2
  exact ⟨rfl, HB1.out⟩
set_option maxRecDepth 100000 in
theorem prog_writes {w : World} {g : Nat} (htab : TabW w) {ds : List Dc} {A : Option Addr} {n c : Nat} (hin : DcsIn w (· < w.heap.size) ds (.slice A n c)) (hsm : ∀ (k : Nat) (hk : k < ds.length), smallDN ds[k]) (hg : w.heap[g]? = some (.cells #[.slice A n c] 45 (0, 0))) : Writes 23 #[.pointer (some ⟨g, 0, none⟩)] w (penP ds) := by
  intro wx Bc Ba hb hB hp
  have hk := (hb.block g (lt_of_heap hg)).trans hg
  have c0 : wx.cell? ⟨g, 0, none⟩ = some (.slice A n c) := by rw [cell_of_row wx g 0 _ _ (0, 0) hk]; rfl
  have HT := Lib.hid (program_any htab.tab hin hsm hb hB hp)
  clear hk hg hin hsm
  unfold penV at HT
  unfold penV
  clear hb hp
  go_enter Tryd.func23, Tryd.ntmps23
  go_wp2_with fail
  refine HT.out.mono ?_
  rintro e1 w1 hpost
  cases hR : adv [] (penP ds) with
  | none =>
    rw [hR] at hpost
    obtain ⟨rfl, hch⟩ := hpost
    have HCH := Lib.hid hch
    clear hR hch
    unfold boom
    go_wp2
    exact ⟨rfl, rfl, HCH.out⟩
  | some T1 =>
    rw [hR] at hpost
    obtain ⟨rfl, u1, hwent⟩ := hpost
    have HWE := Lib.hid hwent
    have HR := Lib.hid hR
    clear hR hwent
    go_wp2
    go_end0
    first
      | exact ⟨rfl, u1, HWE.out⟩
      | (rw [HR.out]; exact ⟨rfl, u1, HWE.out⟩)
set_option maxRecDepth 100000 in
theorem show_any (w : World) (htab : TabW w) {ds : List Dc} {v : Value} (hin : DcsIn w (· < w.heap.size) ds v) (hsm : ∀ (k : Nat) (hk : k < ds.length), smallDN ds[k]) :
    Calls Tryd.prog 13 #[.agg #[v]] w fun r w' => r = .returned (.tuple #[.string (strOf (fin (penP ds)).1), .int .i64 (fin (penP ds)).2]) ∧ Below w.heap.size w w' := by
  obtain ⟨A, c, _, _, rfl, _⟩ := id hin
  have hin2 : ∀ X, Below w.heap.size w X → DcsIn X (· < X.heap.size) ds (.slice A ds.length c) := fun X hb => hin.keep (fun b hlt => hb.block b hlt) (fun b hlt => Nat.lt_of_lt_of_le hlt hb.size)
  obtain ⟨n, hn'⟩ : ∃ n, n = ds.length := ⟨_, rfl⟩
  rw [← hn'] at hin2 ⊢
  clear hin hn'
  have hmf : ∀ (fn : Fn) (first cap : Array Value) (w : World), (Instr.makeFunc fn first cap).run Tryd.prog w = .ok (.func fn first cap) w := fun _ _ _ _ => rfl
  obtain ⟨X, hX⟩ : ∃ X : World, X = w.alloc (.cells #[.slice A n c] 45) := ⟨_, rfl⟩
  have hg : X.heap[w.heap.size]? = some (.cells #[.slice A n c] 45 (0, 0)) := by rw [hX]; exact heap_alloc_new _ _
  have hbx : Below w.heap.size w X := by rw [hX]; exact (Below.refl _ _).alloc (Nat.le_refl _) _
  have hsx : w.heap.size ≤ X.heap.size := hbx.size
  have HWR := Lib.hid (written_any 23 #[.pointer (some ⟨w.heap.size, 0, none⟩)] X (penP ds) (fun _ _ => rfl) (prog_writes (htab.below hbx) (hin2 X hbx) hsm hg))
  have HX := Lib.hid hX
  have HBX := Lib.hid hbx
  clear hX hg hbx hsx
  go_enter Tryd.func13, Tryd.ntmps13
  go_wp2_with fail
  rw [← HX.out]
  refine HWR.out.mono ?_
  rintro e1 w1 ⟨rfl, hb1⟩
  have HB1 := Lib.hid (HBX.out.trans (hb1.mono HBX.out.size))
  clear hb1
  clear hin2
  go_wp2
  go_ret2
  exact ⟨rfl, HB1.out⟩
theorem right_any (w : World) (htab : TabW w) {ds : List Dc} {v : Value} (hin : DcsIn w (· < w.heap.size) ds v) (hsm : ∀ (k : Nat) (hk : k < ds.length), smallDN ds[k]) :
    Calls Tryd.prog 14 #[.agg #[v]] w fun r w' => r = .returned (.bool (decide ((fin (penP ds)).2 = 0))) ∧ Below w.heap.size w w' := by
  obtain ⟨A, c, _, _, rfl, _⟩ := id hin
  obtain ⟨X, hX⟩ : ∃ X : World, X = w.alloc (.cells #[.slice A ds.length c] 45) := ⟨_, rfl⟩
  have hbx : Below w.heap.size w X := by rw [hX]; exact (Below.refl _ _).alloc (Nat.le_refl _) _
  have HS := Lib.hid (show_any X (htab.below hbx) (hin.keep (fun b hlt => hbx.block b hlt) (fun b hlt => Nat.lt_of_lt_of_le hlt hbx.size)) hsm)
  have HX := Lib.hid hX
  have HBX := Lib.hid hbx
  clear hin hsm hX hbx
  go_enter Tryd.func14, Tryd.ntmps14
  go_wp2_with fail
  rw [← HX.out]
  refine HS.out.mono ?_
  rintro e1 w1 ⟨rfl, hb1⟩
  have HB1 := Lib.hid (HBX.out.trans (hb1.mono HBX.out.size))
  clear hb1
  go_wp2
  go_ret
  refine ⟨?_, HB1.out⟩
  by_cases h : (fin (penP ds)).2 = 0 <;> simp [h]
end Go.Proofs.YtihjdfbdpcghdaaDoor
