/- The walk of alive: the diamond of the document. -/
import Derived.Test.YtogmiofmhmbhbaaLi
namespace Go.Proofs.Ytogmiofmhmbhbaa
open Go.RowKit

theorem Edges.lit (w : World) (es : List (Int × Int)) (cs : Array Value) (hcs : cs = (edgesV es).toArray) (g : Nat) (hg : g = w.heap.size) :
    Edges (w.alloc (.cells cs 47)) (w.alloc (.cells cs 47)).heap.size (some ⟨g, 0, none⟩) es := by
  subst hg
  subst hcs
  intro k hk
  have hr := heap_alloc_new w (.cells (edgesV es).toArray 47)
  obtain ⟨g0, g1⟩ := edgesV_get es k hk
  refine ⟨_, rfl, by simp, ?_, ?_⟩
  · rw [cell_of_row _ _ _ _ _ (0, 0) hr]; simpa using g0
  · rw [cell_of_row _ _ _ _ _ (0, 0) hr]; simpa using g1

def dia : List (Int × Int) := [(0, 1), (0, 2), (1, 3), (2, 3)]
def vee : List (Int × Int) := [(0, 1), (0, 2), (1, 3)]
def diaU : List Nat := [15, 10, 12, 8]
def diaD : List Nat := [1, 3, 5, 15]
theorem dia_up : reachL 4 dia = diaU := by decide +kernel
theorem dia_down : turnedL diaU = diaD := by decide +kernel
theorem dia_ok : latB diaU diaD = true := by decide +kernel
theorem vee_no : latB (reachL 4 vee) (turnedL (reachL 4 vee)) = false := by decide +kernel
theorem dia_join : lev diaU [1, 2] = 3 := by decide +kernel
theorem dia_meet : lev diaD [1, 2] = 0 := by decide +kernel
theorem dia_height : heightL diaU diaD = 3 := by decide +kernel

theorem new_dia {w w' : World} {e : Ending} (h : NewPost w 4 dia e w') :
    Below w.heap.size w w' ∧ ∃ h gu gv, w.heap.size ≤ h ∧ w.heap.size ≤ gu ∧ w.heap.size ≤ gv ∧ OrdAt w' h gu gv 4 diaU diaD ∧ e = .returned (.tuple #[.pointer (some ⟨h, 0, none⟩), .int .i64 0]) := by
  refine ⟨h.1, ?_⟩
  rcases h.2 with ⟨h1, _⟩ | ⟨_, _, h1, _⟩ | ⟨_, _, _, h1, _⟩ | ⟨_, _, _, _, x⟩
  · exact absurd h1 (by omega)
  · exact absurd h1 (by decide)
  · exact absurd h1 (by rw [show (4 : Int).toNat = 4 from rfl, dia_up, dia_down, dia_ok]; simp)
  · rw [show (4 : Int).toNat = 4 from rfl, dia_up, dia_down] at x
    exact x
theorem new_vee {w w' : World} {e : Ending} (h : NewPost w 4 vee e w') : Below w.heap.size w w' ∧ e = .returned (.tuple #[.pointer none, .int .i64 31]) := by
  refine ⟨h.1, ?_⟩
  rcases h.2 with ⟨h1, _⟩ | ⟨_, _, h1, _⟩ | ⟨_, _, _, _, x⟩ | ⟨_, _, _, h1, _⟩
  · exact absurd h1 (by omega)
  · exact absurd h1 (by decide)
  · exact x
  · exact absurd h1 (by rw [show (4 : Int).toNat = 4 from rfl, vee_no]; simp)

set_option maxHeartbeats 1000000 in
theorem alive_any (w : World) :
    Calls Try.prog 10 #[] w fun e w' => e = .returned (.bool true) ∧ Below w.heap.size w w' := by
  go_enter Try.func10, Try.ntmps10
  go_wp2_with fail
  refine (new_any _ 4 4 4 _ dia (Edges.lit w dia _ rfl _ rfl) rfl (by omega)).mono ?_
  rintro e w1 hp
  obtain ⟨hb1, h, gu, gv, hh, hu, hv, o, rfl⟩ := new_dia hp
  have hbw1 : Below w.heap.size w w1 := ((Below.refl _ _).alloc (Nat.le_refl _) _).trans (hb1.mono (by simp))
  have hol := o.lt
  have hs1 := hbw1.size
  go_wp2_with fail
  refine (new_any _ 4 3 3 _ vee (Edges.lit w1 vee _ rfl _ rfl) rfl (by omega)).mono ?_
  rintro e w2 hp2
  obtain ⟨hb2, rfl⟩ := new_vee hp2
  have hbw2 : Below w.heap.size w w2 := hbw1.trans (((Below.refl _ _).alloc hs1 _).trans (hb2.mono (by simp; omega)))
  have hb12 : Below w1.heap.size w1 w2 := ((Below.refl _ _).alloc (Nat.le_refl _) _).trans (hb2.mono (by simp))
  have o2 := o.below hb12 hol.1 hol.2.1 hol.2.2
  have hs2 := hbw2.size
  clear hp hp2 hb1 hb2 hb12
  go_wp2_with fail
  refine (size_any _ h gu gv 4 diaU diaD o2).mono ?_
  rintro e w' ⟨rfl, rfl⟩
  go_wp2_with fail
  refine (join_any _ h gu gv 4 diaU diaD (by exact o2.alloc _) [1, 2] _ 2 2 (Ints.at2 _ _ _ _ (by simp)) rfl (by omega)).mono ?_
  rintro e w' ⟨rfl, rfl⟩
  rw [dia_join]
  go_wp2_with fail
  refine (meet_any _ h gu gv 4 diaU diaD (by exact (o2.alloc _).alloc _) [1, 2] _ 2 2 (Ints.at2 _ _ _ _ (by simp)) rfl (by omega)).mono ?_
  rintro e w' ⟨rfl, rfl⟩
  rw [dia_meet]
  go_wp2_with fail
  refine (height_any _ h gu gv 4 diaU diaD (by exact (o2.alloc _).alloc _)).mono ?_
  rintro e w3 ⟨rfl, hb3⟩
  rw [dia_height]
  have hb23 : Below w2.heap.size w2 w3 := (((Below.refl _ _).alloc (Nat.le_refl _) _).alloc (by simp) _).trans (hb3.mono (by simp; omega))
  have hol2 := o2.lt
  have o3 := o2.below hb23 hol2.1 hol2.2.1 hol2.2.2
  have hbw3 : Below w.heap.size w w3 := hbw2.trans (hb23.mono hs2)
  clear hb3 hb23
  go_wp2_with fail
  refine (most_in _ h gu gv 4 diaU diaD o3 0 3 (by omega) (by omega)).mono ?_
  rintro e w' ⟨rfl, rfl⟩
  rw [show (gd diaU 0).testBit 3 = true by decide +kernel]
  go_wp2_with fail
  refine (most_in _ h gu gv 4 diaU diaD o3 1 2 (by omega) (by omega)).mono ?_
  rintro e w' ⟨rfl, rfl⟩
  rw [show (gd diaU 1).testBit 2 = false by decide +kernel]
  go_wp2
  go_ret
  exact ⟨rfl, hbw3⟩

end Go.Proofs.Ytogmiofmhmbhbaa
