/- The contract of New. -/
import Derived.Test.YtogmiofmhmbhbaaLe
namespace Go.Proofs.Ytogmiofmhmbhbaa
open Go.RowKit

theorem OrdAt.new (w : World) (gu gv n : Nat) (up down : List Nat) (su : Sets w gu up) (sd : Sets w gv down) (lu : up.length = n) (ld : down.length = n) (n8 : n ≤ 8) (bu : Bd up) (bd : Bd down) (h : Nat) (hh : h = w.heap.size) :
    OrdAt (w.alloc (.cells #[.slice (some ⟨gu, 0, none⟩) n n, .slice (some ⟨gv, 0, none⟩) n n] 56)) h gu gv n up down := by
  subst hh
  exact ⟨heap_alloc_new w _, su.alloc _, sd.alloc _, lu, ld, n8, bu, bd⟩

set_option maxHeartbeats 1000000 in
theorem new_ok (w : World) (n : Nat) (m c : Nat) (A : Option Addr) (es : List (Int × Int)) (h1 : 1 ≤ n) (h2 : n ≤ 8) (hA : Edges w w.heap.size A es) (hm : es.length = m) (hm2 : m ≤ 4611686018427387904)
    (hbad : badEs n es = false) :
    Calls Try.prog 12 #[.int .i64 n, .slice A m c] w (NewPost w n es) := by
  have HM := Lib.hid hm
  have HBA := Lib.hid hbad
  have HES := Lib.hid (badEs_no hbad)
  have hb0 : Below w.heap.size w (w.alloc (.cells #[.int .i64 (n : Int)] 3)) := (Below.refl _ _).alloc (Nat.le_refl _) _
  clear hm hbad
  go_enter Try.func12, Try.ntmps12
  go_wp2_with fail
  refine (contains_any _ n w.heap.size m c A es (by simp) (by simp) ((hA.below ((Below.refl _ _).alloc (Nat.le_refl _) _)).more (by simp)) HM.out hm2).mono ?_
  rintro e w1 ⟨rfl, hb1⟩
  rw [HBA.out]
  have hq : w1.cell? ⟨w.heap.size, 0, none⟩ = some (.int .i64 (n : Int)) := (hb1.cell (p := ⟨w.heap.size, 0, none⟩) (by simp)).trans (by simp)
  have hs1 : w.heap.size < w1.heap.size := by have := hb1.size; simp at this; omega
  have hw1 : Below w.heap.size w w1 := hb0.trans (hb1.mono (by simp))
  go_wp2_with fail
  refine (reach_any w1 n m c A es h1 h2 ((hA.below hw1).more (by omega)) HM.out hm2 HES.out).mono ?_
  rintro e w2 ⟨gu, rfl, hgu, hS2, hb2⟩
  have hw2 : Below w.heap.size w w2 := hw1.trans (hb2.mono (by omega))
  have hsz2 := hb2.size
  obtain ⟨U, hU⟩ : ∃ U, U = reachL n es := ⟨_, rfl⟩
  have hlU : U.length = n := by rw [hU]; exact reachL_len n es
  have hbU : Bd U := by rw [hU]; exact reachL_bd n h2 es HES.out
  rw [← hU] at hS2
  have HU := Lib.hid hU
  have HLU := Lib.hid hlU
  clear hU hlU
  go_wp2_with fail
  refine (turned_any w2 n n gu U h2 hS2 HLU.out hbU).mono ?_
  rintro e w3 ⟨gv, rfl, hgv, hS3, hb3⟩
  have hw3 : Below w.heap.size w w3 := hw2.trans (hb3.mono (by omega))
  have hsz3 := hb3.size
  have hS2' := hS2.below hb3 (by have := hS2.lt; omega)
  have HO := Lib.hid (OrdAt.new w3 gu gv n U (turnedL U) hS2' hS3 HLU.out (by rw [turnedL_len]; exact HLU.out) h2 hbU (turnedL_bd U (by have := HLU.out; omega)) w3.heap.size rfl)
  go_wp2_with fail
  refine (isLattice_any _ w3.heap.size gu gv n U (turnedL U) (by exact HO.out)).mono ?_
  rintro e w4 ⟨rfl, hb4⟩
  have hw4 : Below w.heap.size w w4 := (hw3.alloc (by omega) _).trans (hb4.mono (by simp; omega))
  have HW := Lib.hid (show NewPost w n es = NewPost w n es from rfl)
  cases hl : latB U (turnedL U)
  · go_wp2
    go_ret2
    exact ⟨hw4, .inr (.inr (.inl ⟨by omega, by omega, HBA.out, by rw [Int.toNat_natCast, ← HU.out]; exact hl, rfl⟩))⟩
  · have hol := HO.out.lt
    go_wp2
    go_ret2
    exact ⟨hw4, .inr (.inr (.inr ⟨by omega, by omega, HBA.out, by rw [Int.toNat_natCast, ← HU.out]; exact hl, w3.heap.size, gu, gv, by omega, by omega, by omega,
      by rw [Int.toNat_natCast, ← HU.out]; exact HO.out.below hb4 hol.1 hol.2.1 hol.2.2, rfl⟩))⟩

theorem new_any (w : World) (n : Int) (m c : Nat) (A : Option Addr) (es : List (Int × Int)) (hA : Edges w w.heap.size A es) (hm : es.length = m) (hm2 : m ≤ 4611686018427387904) :
    Calls Try.prog 12 #[.int .i64 n, .slice A m c] w (NewPost w n es) := by
  by_cases hn : 1 ≤ n ∧ n ≤ 8
  · cases hbad : badEs n es
    · obtain ⟨k, rfl⟩ := Int.eq_ofNat_of_zero_le (show 0 ≤ n by omega)
      exact new_ok w k m c A es (by omega) (by omega) hA hm hm2 hbad
    · exact new_bad w n m c A es hn.1 hn.2 hA hm hm2 hbad
  · exact new_many w n m c A es hn

end Go.Proofs.Ytogmiofmhmbhbaa
