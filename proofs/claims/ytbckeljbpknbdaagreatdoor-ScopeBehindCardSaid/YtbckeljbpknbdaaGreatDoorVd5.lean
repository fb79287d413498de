/- Gg -/
import Derived.Test.YtbckeljbpknbdaaGreatDoorVc2
set_option linter.unusedVariables false
set_option linter.unusedSimpArgs false
namespace Go.Proofs.YtbckeljbpknbdaaGreatDoor
open Go.RowKit
theorem Xsa (p c : Int) (w : World) : (Instr.typeAssert (.iface 73 (.agg #[.int .i64 p, .int .i64 c])) 20 73 true).run Tryz.prog w = .ok (.tuple #[.agg #[.int .i64 p, .int .i64 c], .bool true]) w := by kernel_rfl
theorem Xup (w : World) : (Instr.typeAssert .nilIface 20 73 true).run Tryz.prog w = .ok (.tuple #[.agg #[.int .i64 0, .int .i64 0], .bool false]) w := by kernel_rfl
theorem Xop (a b x : Value) : #[a, b] ++ ((Array.replicate 17 undef).setIfInBounds 3 x).setIfInBounds 0 x = #[a, b, x, undef, undef, x, undef, undef, undef, undef, undef, undef, undef, undef, undef, undef, undef, undef, undef] := by kernel_rfl
set_option maxHeartbeats 2000000 in
theorem Xwf (p q : Addr) (w : World) :
  CallsD Tryz.prog 28 #[.pointer (some p), .pointer (some q)] .returning w fun e u' w' => e = .returned (.tuple #[]) ∧ u' = .returning ∧ Below w.heap.size w w' := by
 refine callsD_of_wpS Tryz.func28 rfl fun c₀ cs hu => ?_
 have h1 := Xup
 have h2 : ∀ w : World, (binOp .neq 20 .nilIface .nilIface).run Tryz.prog w = .ok (.bool false) w := fun _ => by kernel_rfl
 have HB := lh (Xae w (.cells #[.int .i64 0, .int .i64 0] 73))
 apply wpS_seq
 apply wpS_region
 simp [wpOpsS, go_sem, recoverD, hu, Tryz.ntmps28, Exit.thenS]
 refine wpS_of_wp ?_
 rw [Xop]
 go_wp2
 clear h1 h2
 cases c₀
 simp_all [bodyPostS, results, Tryz.results28]
 exact HB.out
set_option maxHeartbeats 2000000 in
theorem Xmd (p q : Addr) (w : World) (x y : Int) (s n : Int) (hp : w.cell? p = some (.int .i64 s)) (hq : w.cell? q = some (.int .i64 n)) (zp : w.frozen? p = false) (zq : w.frozen? q = false) (hne : ¬ p.block = q.block) (hne' : ¬ q.block = p.block) :
  CallsD Tryz.prog 28 #[.pointer (some p), .pointer (some q)] (.panicking [{ v := .iface 73 (.agg #[.int .i64 x, .int .i64 y]), recovered := false }]) w fun e u' w' => e = .returned (.tuple #[]) ∧ u' = .panicking [{ v := .iface 73 (.agg #[.int .i64 x, .int .i64 y]), recovered := true }] ∧
   w' = (((w.alloc (.cells #[.int .i64 x, .int .i64 y] 73)).setCell p (.int .i64 x)).drew.setCell q (.int .i64 y)) := by
 refine callsD_of_wpS Tryz.func28 rfl fun c₀ cs hu => ?_
 have h1 := Xsa
 have hrow := heap_alloc_new w (.cells #[.int .i64 x, .int .i64 y] 73)
 have c0 : (w.alloc (.cells #[.int .i64 x, .int .i64 y] 73)).cell? ⟨w.heap.size, 0, none⟩ = some (.int .i64 x) := by rw [cell_of_row _ _ 0 _ _ (0, 0) hrow]; rfl
 have c1 : (w.alloc (.cells #[.int .i64 x, .int .i64 y] 73)).cell? ⟨w.heap.size, 1, none⟩ = some (.int .i64 y) := by rw [cell_of_row _ _ 1 _ _ (0, 0) hrow]; rfl
 clear hrow
 apply wpS_seq
 apply wpS_region
 simp [wpOpsS, go_sem, recoverD, hu, Tryz.ntmps28, Exit.thenS]
 refine wpS_of_wp ?_
 rw [Xop]
 go_wp2_with fail
 refine wp_region_held_drew (S := fun W => W.cell? ⟨w.heap.size, 0, none⟩ = some (.int .i64 x) ∧ W.cell? ⟨w.heap.size, 1, none⟩ = some (.int .i64 y)) (by kernel_rfl) ⟨c0, c1⟩ (fun hHeld => ?_)
 refine wpAnyH_take (i := 0) (oi := _) (v := .pointer (some ⟨w.heap.size, 0, none⟩)) rfl (by kernel_rfl) (by kernel_rfl) (by kernel_rfl) (fun _ _ _ h => h) (Or.inl ⟨by rfl, fun W hS => ?_⟩) hHeld ?_
 · obtain ⟨s0, s1⟩ := hS
   go_simp
 simp only [Act.put]
 refine wpAnyH_take (i := 1) (oi := _) (v := .int .i64 x) rfl (by kernel_rfl) (by kernel_rfl) (by kernel_rfl) (fun _ _ _ h => h) (Or.inl ⟨by rfl, fun W hS => ?_⟩) hHeld ?_
 · obtain ⟨s0, s1⟩ := hS
   go_simp
 simp only [Act.put]
 refine wpAnyH_take (i := 2) (oi := _) (v := .pointer (some ⟨w.heap.size, 1, none⟩)) rfl (by kernel_rfl) (by kernel_rfl) (by kernel_rfl) (fun _ _ _ h => h) (Or.inl ⟨by rfl, fun W hS => ?_⟩) hHeld ?_
 · obtain ⟨s0, s1⟩ := hS
   go_simp
 simp only [Act.put]
 refine wpAnyH_take (i := 3) (oi := _) (v := .int .i64 y) rfl (by kernel_rfl) (by kernel_rfl) (by kernel_rfl) (fun _ _ _ h => h) (Or.inl ⟨by rfl, fun W hS => ?_⟩) hHeld ?_
 · obtain ⟨s0, s1⟩ := hS
   go_simp
 simp only [Act.put]
 have p0 : (w.alloc (.cells #[.int .i64 x, .int .i64 y] 73)).drew.cell? p = some (.int .i64 s) := Xaa hp _
 have p1 : (w.alloc (.cells #[.int .i64 x, .int .i64 y] 73)).drew.frozen? p = false := Xdb hp zp _
 have hlp := World.block_lt_of_cell? _ _ hp
 have hlq := World.block_lt_of_cell? _ _ hq
 have q0 : (w.alloc (.cells #[.int .i64 x, .int .i64 y] 73)).drew.cell? q = some (.int .i64 n) := Xaa hq _
 have q1 : (w.alloc (.cells #[.int .i64 x, .int .i64 y] 73)).drew.frozen? q = false := Xdb hq zq _
 refine wpAnyH_ready (rs := [4]) (by kernel_rfl) (by simp) ?_
 refine AllReadyH.cons rfl (fun K hK => ?_) AllReadyH.nil
 go_simp
 obtain ⟨W1, hW1⟩ : ∃ W, W = ((w.alloc (.cells #[.int .i64 x, .int .i64 y] 73)).setCell p (.int .i64 x)).drew := ⟨_, rfl⟩
 have e0 : W1.cell? ⟨w.heap.size, 0, none⟩ = some (.int .i64 x) := by rw [hW1]; exact (World.cell?_of_block (Below.heap_setCell _ _ _ _ (by show w.heap.size ≠ p.block; omega))).trans c0
 have e1 : W1.cell? ⟨w.heap.size, 1, none⟩ = some (.int .i64 y) := by rw [hW1]; exact (World.cell?_of_block (Below.heap_setCell _ _ _ _ (by show w.heap.size ≠ p.block; omega))).trans c1
 have e2 : W1.cell? q = some (.int .i64 n) := by rw [hW1]; exact (World.cell?_of_block (Below.heap_setCell _ _ _ _ hne')).trans q0
 have e3 : W1.frozen? q = false := by rw [hW1]; exact (World.frozen?_of_block (Below.heap_setCell _ _ _ _ hne')).trans q1
 rw [← hW1]
 have HW1 := lh hW1
 clear hW1 p0 p1 q0 q1
 refine hK.out _ _ ⟨e0, e1⟩ (fun hHeld => ?_)
 clear hK K
 refine wpAnyH_ready (rs := [5]) (by kernel_rfl) (by simp) ?_
 refine AllReadyH.cons rfl (fun K hK => ?_) AllReadyH.nil
 go_simp
 refine hK.out _ _ ⟨(World.cell?_of_block (Below.heap_setCell _ _ _ _ (by show w.heap.size ≠ q.block; omega))).trans e0, (World.cell?_of_block (Below.heap_setCell _ _ _ _ (by show w.heap.size ≠ q.block; omega))).trans e1⟩ (fun hHeld => ?_)
 clear hK K
 refine wpAnyH_done (by kernel_rfl) ?_ _
 clear hHeld e0 e1 e2 e3
 go_wp2
 simp [bodyPostS, results, Tryz.results28, HW1.out]
 rfl
end Go.Proofs.YtbckeljbpknbdaaGreatDoor
