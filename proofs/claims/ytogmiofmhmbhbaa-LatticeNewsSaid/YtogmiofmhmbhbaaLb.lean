/- The walks of the methods that ask a lattice. -/
import Derived.Test.YtogmiofmhmbhbaaLa
namespace Go.Proofs.Ytogmiofmhmbhbaa
open Go.RowKit

/-- block h is the order of n levels whose sets lie in blocks gu and gv -/
structure OrdAt (w : World) (h gu gv n : Nat) (up down : List Nat) : Prop where
  blk : w.heap[h]? = some (.cells #[.slice (some ⟨gu, 0, none⟩) n n, .slice (some ⟨gv, 0, none⟩) n n] 56 (0, 0))
  su : Sets w gu up
  sd : Sets w gv down
  lu : up.length = n
  ld : down.length = n
  n8 : n ≤ 8
  bu : ∀ x ∈ up, x < 256
  bd : ∀ x ∈ down, x < 256

section
variable {w : World} {h gu gv n : Nat} {up down : List Nat}
theorem OrdAt.c0 (o : OrdAt w h gu gv n up down) : w.cell? ⟨h, 0, none⟩ = some (.slice (some ⟨gu, 0, none⟩) n n) := by
  rw [cell_of_row w h 0 _ _ (0, 0) o.blk]; rfl
theorem OrdAt.c1 (o : OrdAt w h gu gv n up down) : w.cell? ⟨h, 1, none⟩ = some (.slice (some ⟨gv, 0, none⟩) n n) := by
  rw [cell_of_row w h 1 _ _ (0, 0) o.blk]; rfl
theorem OrdAt.below (o : OrdAt w h gu gv n up down) {B : Nat} {w' : World} (hb : Below B w w') (h1 : h < B) (h2 : gu < B) (h3 : gv < B) : OrdAt w' h gu gv n up down :=
  ⟨(hb.block h h1).trans o.blk, (hb.block gu h2).trans o.su, (hb.block gv h3).trans o.sd, o.lu, o.ld, o.n8, o.bu, o.bd⟩
theorem OrdAt.lt (o : OrdAt w h gu gv n up down) : h < w.heap.size ∧ gu < w.heap.size ∧ gv < w.heap.size := by
  have key : ∀ (g : Nat) (o : Obj), w.heap[g]? = some o → g < w.heap.size := fun g o e => by
    rcases Nat.lt_or_ge g w.heap.size with hlt | hge
    · exact hlt
    · rw [Array.getElem?_eq_none hge] at e; cases e
  exact ⟨key _ _ o.blk, key _ _ o.su, key _ _ o.sd⟩
end

set_option maxHeartbeats 400000 in
theorem size_any (w : World) (h gu gv n : Nat) (up down : List Nat) (o : OrdAt w h gu gv n up down) :
    Calls Try.prog 21 #[.pointer (some ⟨h, 0, none⟩)] w fun e w' => e = .returned (.int .i64 n) ∧ w = w' := by
  have hc := o.c0
  go_enter Try.func21, Try.ntmps21
  go_wp2
  go_ret
  exact ⟨rfl, rfl⟩

set_option maxHeartbeats 400000 in
theorem most_in (w : World) (h gu gv n : Nat) (up down : List Nat) (o : OrdAt w h gu gv n up down) (a b : Nat) (ha : a < n) (hb : b < n) :
    Calls Try.prog 15 #[.pointer (some ⟨h, 0, none⟩), .int .i64 a, .int .i64 b] w fun e w' => e = .returned (.bool ((gd up a).testBit b)) ∧ w = w' := by
  have hc := o.c0
  have h8 := o.n8
  have hcu := o.su.cell (k := a) (by rw [o.lu]; exact ha)
  have hx := gd_bound (k := a) (by omega) o.bu
  by_cases hlt : b < a
  · go_enter Try.func15, Try.ntmps15
    go_wp2_with (first | (go_at_call 21; refine (size_any _ h gu gv n up down o).mono ?_; rintro e w' ⟨rfl, rfl⟩) | (go_at_call 38; refine (has_any (gd up a) b _ hx (by omega)).mono ?_; rintro e w' ⟨rfl, rfl⟩))
    go_ret
    exact ⟨rfl, rfl⟩
  · have hle : a ≤ b := by omega
    go_enter Try.func15, Try.ntmps15
    go_wp2_with (first | (go_at_call 21; refine (size_any _ h gu gv n up down o).mono ?_; rintro e w' ⟨rfl, rfl⟩) | (go_at_call 38; refine (has_any (gd up a) b _ hx (by omega)).mono ?_; rintro e w' ⟨rfl, rfl⟩))
    all_goals
      go_ret
      exact ⟨rfl, rfl⟩

set_option maxHeartbeats 400000 in
theorem most_out (w : World) (h gu gv n : Nat) (up down : List Nat) (o : OrdAt w h gu gv n up down) (a b : Int) (hab : ¬ (0 ≤ a ∧ 0 ≤ b ∧ a < n ∧ b < n)) :
    Calls Try.prog 15 #[.pointer (some ⟨h, 0, none⟩), .int .i64 a, .int .i64 b] w fun e w' => e = .returned (.bool false) ∧ w = w' := by
  have hc := o.c0
  have h8 := o.n8
  by_cases hlt : b < a
  all_goals by_cases h0 : 0 ≤ a
  all_goals by_cases h1 : 0 ≤ b
  all_goals by_cases h2 : a < n
  all_goals by_cases h3 : b < n
  all_goals first | (exfalso; omega) | clear hab
  all_goals
    go_enter Try.func15, Try.ntmps15
    go_wp2_with (go_at_call 21; refine (size_any _ h gu gv n up down o).mono ?_; rintro e w' ⟨rfl, rfl⟩)
  all_goals
    go_ret
    exact ⟨rfl, rfl⟩

theorem most_any (w : World) (h gu gv n : Nat) (up down : List Nat) (o : OrdAt w h gu gv n up down) (a b : Int) :
    Calls Try.prog 15 #[.pointer (some ⟨h, 0, none⟩), .int .i64 a, .int .i64 b] w fun e w' => e = .returned (.bool (mst up a b)) ∧ w = w' := by
  by_cases hab : 0 ≤ a ∧ 0 ≤ b ∧ a < n ∧ b < n
  · obtain ⟨h0, h1, h2, h3⟩ := hab
    obtain ⟨a, rfl⟩ := Int.eq_ofNat_of_zero_le h0
    obtain ⟨b, rfl⟩ := Int.eq_ofNat_of_zero_le h1
    have := most_in w h gu gv n up down o a b (by omega) (by omega)
    rw [mst_in up a b (by rw [o.lu]; omega) (by rw [o.lu]; omega)]
    exact this
  · have := most_out w h gu gv n up down o a b hab
    rw [mst_out up a b (by rw [o.lu]; exact hab)]
    exact this

set_option maxHeartbeats 400000 in
theorem join_any (w : World) (h gu gv n : Nat) (up down : List Nat) (o : OrdAt w h gu gv n up down) (zs : List Int) (A : Option Addr) (m c : Nat) (hA : Ints w A zs) (hm : zs.length = m) (hm2 : m ≤ 4611686018427387904) :
    Calls Try.prog 17 #[.pointer (some ⟨h, 0, none⟩), .slice A m c] w fun e w' => e = .returned (.int .i64 (lev up zs)) ∧ w = w' := by
  have hc := o.c0
  have h8 := o.n8
  have HM := Lib.hid hm
  clear hm
  go_enter Try.func17, Try.ntmps17
  go_wp2_with (go_at_call 40; refine (shared_any up zs n n gu m c A _ o.su o.lu h8 o.bu hA HM.out hm2).mono ?_; rintro e w' ⟨rfl, rfl⟩)
  go_ret
  exact ⟨rfl, rfl⟩

set_option maxHeartbeats 400000 in
theorem meet_any (w : World) (h gu gv n : Nat) (up down : List Nat) (o : OrdAt w h gu gv n up down) (zs : List Int) (A : Option Addr) (m c : Nat) (hA : Ints w A zs) (hm : zs.length = m) (hm2 : m ≤ 4611686018427387904) :
    Calls Try.prog 19 #[.pointer (some ⟨h, 0, none⟩), .slice A m c] w fun e w' => e = .returned (.int .i64 (lev down zs)) ∧ w = w' := by
  have hc := o.c1
  have h8 := o.n8
  have HM := Lib.hid hm
  clear hm
  go_enter Try.func19, Try.ntmps19
  go_wp2_with (go_at_call 40; refine (shared_any down zs n n gv m c A _ o.sd o.ld h8 o.bd hA HM.out hm2).mono ?_; rintro e w' ⟨rfl, rfl⟩)
  go_ret
  exact ⟨rfl, rfl⟩

theorem Ints.nil (w : World) (A : Option Addr) : Ints w A [] := fun k hk => absurd hk (by simp)

set_option maxHeartbeats 400000 in
theorem bottom_any (w : World) (h gu gv n : Nat) (up down : List Nat) (o : OrdAt w h gu gv n up down) :
    Calls Try.prog 27 #[.pointer (some ⟨h, 0, none⟩)] w fun e w' => e = .returned (.int .i64 (lev up [])) ∧ w = w' := by
  go_enter Try.func27, Try.ntmps27
  go_wp2_with (go_at_call 17; refine (join_any _ h gu gv n up down o [] none 0 0 (Ints.nil _ _) rfl (by omega)).mono ?_; rintro e w' ⟨rfl, rfl⟩)
  go_ret
  exact ⟨rfl, rfl⟩

set_option maxHeartbeats 400000 in
theorem top_any (w : World) (h gu gv n : Nat) (up down : List Nat) (o : OrdAt w h gu gv n up down) :
    Calls Try.prog 28 #[.pointer (some ⟨h, 0, none⟩)] w fun e w' => e = .returned (.int .i64 (lev down [])) ∧ w = w' := by
  go_enter Try.func28, Try.ntmps28
  go_wp2_with (go_at_call 19; refine (meet_any _ h gu gv n up down o [] none 0 0 (Ints.nil _ _) rfl (by omega)).mono ?_; rintro e w' ⟨rfl, rfl⟩)
  go_ret
  exact ⟨rfl, rfl⟩

end Go.Proofs.Ytogmiofmhmbhbaa
