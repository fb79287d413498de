/- What all laws of the lattice share. -/
import Derived.Test.YtogmiofmhmbhbaaLj
import Derived.Test.YtogmiofmhmbhbaaPd
namespace Go.Proofs.Ytogmiofmhmbhbaa
open Go.RowKit

/-- a law's call: true, and nothing that was there has turned -/
def LawPost (w : World) (e : Ending) (w' : World) : Prop := e = .returned (.bool true) ∧ Below w.heap.size w w'

/-- what New answers, in the words of the lattice -/
theorem new_latt {n : Int} {es : List (Int × Int)} (h1 : 1 ≤ n) (hb : badEs n es = false) (hl : latB (reachL n.toNat es) (turnedL (reachL n.toNat es)) = true) :
    RightEs n.toNat es ∧ Latt n.toNat (reachL n.toNat es) (turnedL (reachL n.toNat es)) := by
  have he : RightEs n.toNat es := fun e h => by have := badEs_no hb e h; omega
  exact ⟨he, latt_of (reach_pre _ es he) hl⟩

theorem join_two (w : World) (h gu gv n : Nat) (U D : List Nat) (o : OrdAt w h gu gv n U D) (l : Latt n U D) (x y : Nat) (hx : x < n) (hy : y < n) (g : Nat) (hg : g = w.heap.size) :
    Calls Try.prog 17 #[.pointer (some ⟨h, 0, none⟩), .slice (some ⟨g, 0, none⟩) 2 2] (w.alloc (.cells #[.int .i64 (x : Int), .int .i64 (y : Int)] 3)) fun e w' =>
      e = .returned (.int .i64 (J U x y : Nat)) ∧ w.alloc (.cells #[.int .i64 (x : Int), .int .i64 (y : Int)] 3) = w' := by
  rw [← (l.J_spec hx hy).1]
  exact join_any _ h gu gv n U D (o.alloc _) [(x : Int), (y : Int)] _ 2 2 (Ints.at2 _ _ _ _ hg) rfl (by omega)
theorem meet_two (w : World) (h gu gv n : Nat) (U D : List Nat) (o : OrdAt w h gu gv n U D) (l : Latt n U D) (x y : Nat) (hx : x < n) (hy : y < n) (g : Nat) (hg : g = w.heap.size) :
    Calls Try.prog 19 #[.pointer (some ⟨h, 0, none⟩), .slice (some ⟨g, 0, none⟩) 2 2] (w.alloc (.cells #[.int .i64 (x : Int), .int .i64 (y : Int)] 3)) fun e w' =>
      e = .returned (.int .i64 (J D x y : Nat)) ∧ w.alloc (.cells #[.int .i64 (x : Int), .int .i64 (y : Int)] 3) = w' := by
  rw [← (l.turn.J_spec hx hy).1]
  exact meet_any _ h gu gv n U D (o.alloc _) [(x : Int), (y : Int)] _ 2 2 (Ints.at2 _ _ _ _ hg) rfl (by omega)
/-- a call that has made new memory alone: the order is there as it was -/
def Kept (B0 : Nat) (w0 : World) (h gu gv n : Nat) (U D : List Nat) (v : Value) (e : Ending) (w' : World) : Prop := e = .returned v ∧ OrdAt w' h gu gv n U D ∧ Below B0 w0 w' ∧ B0 ≤ w'.heap.size
theorem join_on (w0 : World) (B0 : Nat) (w : World) (h gu gv n : Nat) (U D : List Nat) (o : OrdAt w h gu gv n U D) (hb : Below B0 w0 w) (hB : B0 ≤ w.heap.size) (l : Latt n U D) (x y : Nat) (hx : x < n) (hy : y < n) (g : Nat) (hg : g = w.heap.size) :
    Calls Try.prog 17 #[.pointer (some ⟨h, 0, none⟩), .slice (some ⟨g, 0, none⟩) 2 2] (w.alloc (.cells #[.int .i64 (x : Int), .int .i64 (y : Int)] 3)) (Kept B0 w0 h gu gv n U D (.int .i64 (J U x y : Nat))) :=
  (join_two w h gu gv n U D o l x y hx hy g hg).mono fun _ _ ⟨he, hw⟩ => ⟨he, by rw [← hw]; exact o.alloc _, by rw [← hw]; exact hb.alloc hB _, by rw [← hw]; simp; omega⟩
theorem meet_on (w0 : World) (B0 : Nat) (w : World) (h gu gv n : Nat) (U D : List Nat) (o : OrdAt w h gu gv n U D) (hb : Below B0 w0 w) (hB : B0 ≤ w.heap.size) (l : Latt n U D) (x y : Nat) (hx : x < n) (hy : y < n) (g : Nat) (hg : g = w.heap.size) :
    Calls Try.prog 19 #[.pointer (some ⟨h, 0, none⟩), .slice (some ⟨g, 0, none⟩) 2 2] (w.alloc (.cells #[.int .i64 (x : Int), .int .i64 (y : Int)] 3)) (Kept B0 w0 h gu gv n U D (.int .i64 (J D x y : Nat))) :=
  (meet_two w h gu gv n U D o l x y hx hy g hg).mono fun _ _ ⟨he, hw⟩ => ⟨he, by rw [← hw]; exact o.alloc _, by rw [← hw]; exact hb.alloc hB _, by rw [← hw]; simp; omega⟩
theorem bottom_two (w : World) (h gu gv n : Nat) (U D : List Nat) (o : OrdAt w h gu gv n U D) (l : Latt n U D) (h0 : 0 < n) :
    Calls Try.prog 27 #[.pointer (some ⟨h, 0, none⟩)] w fun e w' => e = .returned (.int .i64 (Bt U : Nat)) ∧ w = w' := by
  rw [← (l.Bt_spec h0).1]
  exact bottom_any w h gu gv n U D o
theorem top_two (w : World) (h gu gv n : Nat) (U D : List Nat) (o : OrdAt w h gu gv n U D) (l : Latt n U D) (h0 : 0 < n) :
    Calls Try.prog 28 #[.pointer (some ⟨h, 0, none⟩)] w fun e w' => e = .returned (.int .i64 (Bt D : Nat)) ∧ w = w' := by
  rw [← (l.turn.Bt_spec h0).1]
  exact top_any w h gu gv n U D o
theorem Below.allocs {B0 : Nat} {a w : World} (h : Below B0 a w) (hB : B0 ≤ w.heap.size) (o : Obj) : Below B0 a (w.alloc o) ∧ B0 ≤ (w.alloc o).heap.size := ⟨h.alloc hB o, by simp; omega⟩

end Go.Proofs.Ytogmiofmhmbhbaa
