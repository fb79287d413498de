/- The heap's functions: Load, Words, Objects. -/
import Derived.Test.YtnplekfpncjnpaaHac
set_option linter.unusedVariables false
set_option linter.unusedSimpArgs false
namespace Go.Proofs.Ytnplekfpncjnpaa
open Go.RowKit

section
variable (w : World) (a b c d : Value) (t : TypeId)
theorem two_c0 : (w.alloc (.cells #[a, b] t)).cell? ⟨w.heap.size, 0, none⟩ = some a := by rw [cell_of_row _ _ 0 _ _ (0, 0) (heap_alloc_new w _)]; rfl
theorem two_c1 : (w.alloc (.cells #[a, b] t)).cell? ⟨w.heap.size, 1, none⟩ = some b := by rw [cell_of_row _ _ 1 _ _ (0, 0) (heap_alloc_new w _)]; rfl
theorem four_c0 : (w.alloc (.cells #[a, b, c, d] t)).cell? ⟨w.heap.size, 0, none⟩ = some a := by rw [cell_of_row _ _ 0 _ _ (0, 0) (heap_alloc_new w _)]; rfl
theorem four_c1 : (w.alloc (.cells #[a, b, c, d] t)).cell? ⟨w.heap.size, 1, none⟩ = some b := by rw [cell_of_row _ _ 1 _ _ (0, 0) (heap_alloc_new w _)]; rfl
theorem four_c2 : (w.alloc (.cells #[a, b, c, d] t)).cell? ⟨w.heap.size, 2, none⟩ = some c := by rw [cell_of_row _ _ 2 _ _ (0, 0) (heap_alloc_new w _)]; rfl
theorem four_c3 : (w.alloc (.cells #[a, b, c, d] t)).cell? ⟨w.heap.size, 3, none⟩ = some d := by rw [cell_of_row _ _ 3 _ _ (0, 0) (heap_alloc_new w _)]; rfl
theorem alloc_cell {w : World} {p : Addr} {u : Value} (h : w.cell? p = some u) (hlt : p.block < w.heap.size) (o : Obj) : (w.alloc o).cell? p = some u :=
  (World.cell?_of_block (w := w) (Below.heap_alloc w o p.block hlt)).trans h
end

def LoadV (r : Wd × Bool) : Value := .tuple #[wagg r.1, .bool r.2]
set_option maxRecDepth 100000 in
set_option maxHeartbeats 1000000 in
theorem load_any {w : World} {base h g c : Nat} {A : List Value} {H : Hp} (X : HpAt w base h g c A H) (a : Int) (ha : In64 a) :
    Calls Try.prog 14 #[.pointer (some ⟨h, 0, none⟩), .int .i64 a] w fun e w' => e = .returned (LoadV (loadM H a)) ∧ Below w.heap.size w w' := by
  have HW := fun o : Obj => word_any (X.below ((Below.refl _ w).alloc (Nat.le_refl _) o)) a ha
  have HW := Lib.hid HW
  have HB := Lib.hid (fun o : Obj => (Below.refl w.heap.size w).alloc (Nat.le_refl _) o)
  unfold loadM
  cases hp : place H a with
  | none =>
    rw [hp] at HW
    unfold placeV at HW
    clear X ha hp
    unfold LoadV wagg noWd
    go_enter Try.func14, Try.ntmps14
    go_wp2_with fail
    refine (HW.out _).mono ?_
    rintro e w2 ⟨rfl, rfl⟩
    go_wp2
    refine bodyPost_ret (v := .tuple #[.agg #[.int .i64 0, .int .i64 0], .bool false]) ?_ rfl ⟨rfl, HB.out _⟩
    simp [results, Try.results14, go_sem, two_c0, two_c1]
  | some q =>
    obtain ⟨t, k⟩ := q
    rw [hp] at HW
    unfold placeV at HW
    obtain ⟨hk, -, ht, hkl⟩ := place_some hp
    obtain ⟨hc, hlt, hglt, h4⟩ := X.seen
    obtain ⟨B, d, hw, hd, -, hrow, h64⟩ := X.words ht
    obtain ⟨gw, cap, hv, -, -, hgw, k0, k1, -⟩ := hrow.at_ k hkl
    cases hv
    obtain ⟨x, hx⟩ : ∃ x, x = (getM H t).ws[k] := ⟨_, rfl⟩
    have hget : (getM H t).ws[k]?.getD noWd = x := by rw [List.getElem?_eq_getElem hkl, hx]; rfl
    dsimp only
    rw [hget]
    rw [← hx] at k0 k1
    have hcap := X.cap
    obtain ⟨n, hn⟩ : ∃ n, n = H.length := ⟨_, rfl⟩
    obtain ⟨m, hm⟩ : ∃ m, m = (getM H t).ws.length := ⟨_, rfl⟩
    rw [← hn] at hc ht h4 hcap
    rw [← hm] at hw hd h64 hkl
    have a0 := fun o : Obj => alloc_cell hc hlt o
    have a1 := fun o : Obj => alloc_cell hw hglt o
    have a2 := fun o : Obj => alloc_cell k0 hgw o
    have a3 := fun o : Obj => alloc_cell k1 hgw o
    obtain ⟨xv, hxv⟩ : ∃ v, v = x.v := ⟨_, rfl⟩
    obtain ⟨xs, hxs⟩ : ∃ v, v = x.s := ⟨_, rfl⟩
    rw [← hxv] at k0 a2
    rw [← hxs] at k1 a3
    clear X ha hp hget hx hn hm hrow
    unfold LoadV wagg
    dsimp only
    rw [← hxv, ← hxs]
    clear hxv hxs
    go_enter Try.func14, Try.ntmps14
    go_wp2_with fail
    refine (HW.out _).mono ?_
    rintro e w2 ⟨rfl, rfl⟩
    go_wp2
    refine bodyPost_ret (v := .tuple #[.agg #[.int .i64 xv, .int .i64 xs], .bool true]) ?_ rfl ⟨rfl, HB.out _⟩
    simp [results, Try.results14, go_sem, two_c0, two_c1]

end Go.Proofs.Ytnplekfpncjnpaa
