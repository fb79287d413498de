/- Package code: numbers within bounds. -/
import Derived.Test.YtgohnlcgidmlfaaDoorMea
set_option linter.unusedVariables false
set_option linter.unusedSimpArgs false
namespace Go.Proofs.YtgohnlcgidmlfaaDoor
open Go.RowKit

def rg (lo hi x : Int) : Bool := decide (lo ≤ x ∧ x ≤ hi)
theorem rg_iff {lo hi x : Int} : rg lo hi x = true ↔ lo ≤ x ∧ x ≤ hi := by unfold rg; simp
def wi (lo hi : Int) (xs : List Int) : Bool := xs.all (rg lo hi)

theorem liesI_lit {w : World} {g : Nat} {xs : List Int} {n : Nat} (hn : n = xs.length) (h : w.heap[g]? = some (.cells (xs.map (Value.int .i64)).toArray 3 (0, 0))) (hin : ∀ x ∈ xs, In64 x) (hl : xs.length ≤ 1000) : Lies KI w (· = g) xs (.slice (some ⟨g, 0, none⟩) n n) := by
  subst hn
  refine ⟨some ⟨g, 0, none⟩, xs.length, fun k => [.int .i64 (xs[k]?.getD 0)], rfl, Nat.le_refl _, by omega, by omega, fun k hk => ⟨g, 0, rfl, rfl, ⟨by dsimp only; rw [List.getElem?_eq_getElem hk]; rfl, hin _ (List.getElem_mem hk)⟩, fun j hj => ?_⟩⟩
  obtain rfl : j = 0 := Nat.lt_one_iff.1 hj
  rw [cell_of_row w g _ _ _ (0, 0) h]
  dsimp only
  rw [List.getElem?_eq_getElem hk]
  simp [KI, hk]

set_option maxRecDepth 100000 in
theorem within1_any {w : World} {g0 g1 : Nat} {lo hi : Int} (h0 : w.cell? ⟨g0, 0, none⟩ = some (.int .i64 lo)) (h1 : w.cell? ⟨g1, 0, none⟩ = some (.int .i64 hi)) (x : Int) :
    Calls Tryd.prog 55 #[.int .i64 x, .pointer (some ⟨g0, 0, none⟩), .pointer (some ⟨g1, 0, none⟩)] w fun e w' => e = .returned (.bool (!rg lo hi x)) ∧ w' = w := by
  by_cases h : x < lo
  · have HR : Hid ((!rg lo hi x) = true) := Lib.hid (by unfold rg; simp; omega)
    go_enter Tryd.func55, Tryd.ntmps55
    go_wp2
    go_ret
    exact ⟨rbool HR.out.symm, rfl⟩
  · have HR : Hid ((!rg lo hi x) = decide (hi < x)) := Lib.hid (by unfold rg; rw [Bool.eq_iff_iff]; simp; omega)
    go_enter Tryd.func55, Tryd.ntmps55
    go_wp2
    go_ret
    exact ⟨rbool HR.out.symm, rfl⟩

set_option maxRecDepth 100000 in
theorem within_any {w : World} {S : Nat → Prop} {xs : List Int} {v : Value} (h : Lies KI w S xs v) (hS : ∀ b, S b → b < w.heap.size) (lo hi : Int) :
    Calls Tryd.prog 43 #[.int .i64 lo, .int .i64 hi, v] w (AnyPost w (wi lo hi xs)) := by
  obtain ⟨X, hX⟩ : ∃ X : World, X = (w.alloc (.cells #[.int .i64 lo] 3)).alloc (.cells #[.int .i64 hi] 3) := ⟨_, rfl⟩
  have hb : Below w.heap.size w X := by rw [hX]; exact ((Below.refl _ w).alloc (Nat.le_refl _) _).alloc (by simp) _
  have hs : X.heap.size = w.heap.size + 2 := by rw [hX]; simp
  have h0 : X.cell? ⟨w.heap.size, 0, none⟩ = some (.int .i64 lo) := by
    rw [cell_of_row X _ 0 #[.int .i64 lo] 3 (0, 0) (by rw [hX]; exact (Below.heap_alloc _ _ _ (by simp)).trans (heap_alloc_new w _))]; rfl
  have h1 : X.cell? ⟨w.heap.size + 1, 0, none⟩ = some (.int .i64 hi) := by
    rw [cell_of_row X _ 0 #[.int .i64 hi] 3 (0, 0) (by
      have := heap_alloc_new (w.alloc (.cells #[.int .i64 lo] 3)) (.cells #[.int .i64 hi] 3)
      rw [asz] at this
      rw [hX]; exact this)]; rfl
  have hp : Pred X 55 #[.pointer (some ⟨w.heap.size, 0, none⟩), .pointer (some ⟨w.heap.size + 1, 0, none⟩)] xs.length (ArgI X S xs) (fun k => !rg lo hi (xs[k]?.getD 0)) :=
    { ent := fun _ _ => rfl
      call := fun k hk x hx wx hbx => by
        obtain ⟨hk', rfl, -⟩ := hx
        rw [List.getElem?_eq_getElem hk']
        refine (within1_any ((hbx.cell (p := ⟨w.heap.size, 0, none⟩) (by show w.heap.size < X.heap.size; omega)).trans h0) ((hbx.cell (p := ⟨w.heap.size + 1, 0, none⟩) (by show w.heap.size + 1 < X.heap.size; omega)).trans h1) xs[k]).mono ?_
        rintro e w2 ⟨rfl, rfl⟩
        exact ⟨rfl, Below.refl _ _⟩ }
  have hc := containsI_any (h.keep (w' := X) (fun b hq => hb.block b (hS b hq)) (fun _ h => h)) (fun b hq => by have := hS b hq; omega) hp
  rw [any_range xs (fun x => !rg lo hi x) _ (fun k hk => by rw [List.getElem?_eq_getElem hk]; rfl)] at hc
  have HE : Hid (wi lo hi xs = !(xs.any fun x => !rg lo hi x)) := Lib.hid (by unfold wi; rw [List.not_any_eq_all_not]; simp)
  obtain ⟨q, hq⟩ : ∃ q, q = xs.any fun x => !rg lo hi x := ⟨_, rfl⟩
  rw [← hq] at hc HE
  obtain ⟨A, c, rfl, -, -⟩ := h.form
  have HX := Lib.hid hX
  have HB := Lib.hid hb
  have HC := Lib.hid hc
  clear h hS hX hb hs h0 h1 hp hc hq
  go_enter Tryd.func43, Tryd.ntmps43
  go_wp2_with fail
  rw [← HX.out]
  refine HC.out.mono ?_
  rintro e w2 ⟨rfl, hb2⟩
  have HB2 := Lib.hid (HB.out.trans (hb2.mono HB.out.size))
  clear hb2
  go_wp2
  go_ret
  exact ⟨rbool HE.out.symm, HB2.out⟩

theorem wi_lit {w : World} {g : Nat} (xs : List Int) (lo hi : Int) {n : Nat} (hn : n = xs.length) (h : w.heap[g]? = some (.cells (xs.map (Value.int .i64)).toArray 3 (0, 0))) (hin : ∀ x ∈ xs, In64 x) (hl : xs.length ≤ 1000) :
    Calls Tryd.prog 43 #[.int .i64 lo, .int .i64 hi, .slice (some ⟨g, 0, none⟩) n n] w (AnyPost w (wi lo hi xs)) :=
  within_any (liesI_lit hn h hin hl) (fun b hb => by rw [hb]; exact heap_lt h) lo hi
theorem wi_one {w : World} (lo hi x : Int) (hx : In64 x) :
    Calls Tryd.prog 43 #[.int .i64 lo, .int .i64 hi, .slice (some ⟨w.heap.size, 0, none⟩) 1 1] (w.alloc (.cells #[.int .i64 x] 3)) fun e w' => e = .returned (.bool (rg lo hi x)) ∧ Below w.heap.size w w' :=
  (wi_lit [x] lo hi rfl (heap_alloc_new w _) (by simpa using hx) (by simp)).mono fun e w' ⟨he, hb⟩ => ⟨by rw [he]; simp [wi], ((Below.refl _ w).alloc (Nat.le_refl _) _).trans (hb.mono (by simp))⟩
theorem wi_two {w : World} (lo hi x y : Int) (hx : In64 x) (hy : In64 y) :
    Calls Tryd.prog 43 #[.int .i64 lo, .int .i64 hi, .slice (some ⟨w.heap.size, 0, none⟩) 2 2] (w.alloc (.cells #[.int .i64 x, .int .i64 y] 3)) fun e w' => e = .returned (.bool (rg lo hi x && rg lo hi y)) ∧ Below w.heap.size w w' :=
  (wi_lit [x, y] lo hi rfl (heap_alloc_new w _) (by simp; exact ⟨hx, hy⟩) (by simp)).mono fun e w' ⟨he, hb⟩ => ⟨by rw [he]; simp [wi], ((Below.refl _ w).alloc (Nat.le_refl _) _).trans (hb.mono (by simp))⟩
theorem wi_four {w : World} (lo hi x y z u : Int) (hx : In64 x) (hy : In64 y) (hz : In64 z) (hu : In64 u) :
    Calls Tryd.prog 43 #[.int .i64 lo, .int .i64 hi, .slice (some ⟨w.heap.size, 0, none⟩) 4 4] (w.alloc (.cells #[.int .i64 x, .int .i64 y, .int .i64 z, .int .i64 u] 3)) fun e w' => e = .returned (.bool (rg lo hi x && rg lo hi y && rg lo hi z && rg lo hi u)) ∧ Below w.heap.size w w' :=
  (wi_lit [x, y, z, u] lo hi rfl (heap_alloc_new w _) (by simp; exact ⟨hx, hy, hz, hu⟩) (by simp)).mono fun e w' ⟨he, hb⟩ => ⟨by rw [he]; simp [wi, Bool.and_assoc], ((Below.refl _ w).alloc (Nat.le_refl _) _).trans (hb.mono (by simp))⟩

end Go.Proofs.YtgohnlcgidmlfaaDoor
