/- Fp -/
import Derived.Test.YtbckeljbpknbdaaGreatDoorVb4
import Derived.Test.YtbckeljbpknbdaaGreatDoorVc1
set_option linter.unusedVariables false
set_option linter.unusedSimpArgs false
namespace Go.Proofs.YtbckeljbpknbdaaGreatDoor
open Go.RowKit
section
structure Xaz (w : World) (B R L E : Nat) (D U kd : Int) (nm ty : ByteArray) (vb vl : Value) (Z : World) (ve : Value) (us : List Tok) : Prop where
 lo : w.heap.size + 3 ≤ E
 hB : B ≤ w.heap.size
 r0 : Z.heap[w.heap.size]? = some (.cells #[.pointer (some ⟨R, 0, none⟩)] 52 (0, 0))
 r1 : Z.heap[w.heap.size + 1]? = some (.cells #[.int .i64 D] 3 (0, 0))
 res : Z.heap[w.heap.size + 1 + 1]? = some (.cells #[.int .i64 0, .int .i64 0, .string ⟨#[]⟩, .string ⟨#[]⟩, .slice none 0 0, .slice none 0 0, .slice none 0 0] 68 (0, 0))
 row : Z.heap[E]? = some (.cells #[.int .i64 kd, .int .i64 U, .string nm, .string ty, ve, vb, vl] 68 (0, 0))
 rd : RdAt Z B R L us
 chg : Chg (fun b => b = R) w Z
theorem row7 {w : World} {g : Nat} {a b c d e f l : Value} {t : TypeId} (h : w.heap[g]? = some (.cells #[a, b, c, d, e, f, l] t (0, 0))) :
  w.cell? ⟨g, 0, none⟩ = some a ∧ w.cell? ⟨g, 1, none⟩ = some b ∧ w.cell? ⟨g, 2, none⟩ = some c ∧ w.cell? ⟨g, 3, none⟩ = some d ∧ w.cell? ⟨g, 4, none⟩ = some e ∧ w.cell? ⟨g, 5, none⟩ = some f ∧ w.cell? ⟨g, 6, none⟩ = some l ∧
  w.frozen? ⟨g, 0, none⟩ = false ∧ w.frozen? ⟨g, 1, none⟩ = false ∧ w.frozen? ⟨g, 2, none⟩ = false ∧ w.frozen? ⟨g, 3, none⟩ = false ∧ w.frozen? ⟨g, 4, none⟩ = false ∧ w.frozen? ⟨g, 5, none⟩ = false ∧ w.frozen? ⟨g, 6, none⟩ = false :=
 ⟨by rw [cell_of_row w g 0 _ _ (0, 0) h]; rfl, by rw [cell_of_row w g 1 _ _ (0, 0) h]; rfl, by rw [cell_of_row w g 2 _ _ (0, 0) h]; rfl, by rw [cell_of_row w g 3 _ _ (0, 0) h]; rfl, by rw [cell_of_row w g 4 _ _ (0, 0) h]; rfl, by rw [cell_of_row w g 5 _ _ (0, 0) h]; rfl, by rw [cell_of_row w g 6 _ _ (0, 0) h]; rfl,
  frozen_of_row w g 0 _ _ h, frozen_of_row w g 1 _ _ h, frozen_of_row w g 2 _ _ h, frozen_of_row w g 3 _ _ h, frozen_of_row w g 4 _ _ h, frozen_of_row w g 5 _ _ h, frozen_of_row w g 6 _ _ h⟩
theorem Xud {w : World} {g : Nat} {a b c d e f l : Value} {t : TypeId} (h : w.heap[g]? = some (.cells #[a, b, c, d, e, f, l] t (0, 0))) (i : Nat) (u : Value) : (w.setCell ⟨g, i, none⟩ u).heap[g]? = some (.cells ((#[a, b, c, d, e, f, l] : Array Value).setIfInBounds i u) t (0, 0)) := by
 simp [World.setCell, Array.getElem?_modify, h]
section
variable {w Z Z' : World} {B R L E : Nat} {D : Int} {kd U : Int} {nm ty : ByteArray} {ve vb vl : Value} {xs : List Ex} {us us' : List Tok}
theorem Xaz.put (h : Xaz w B R L E D U kd nm ty vb vl Z ve us) (i : Nat) (u : Value) {kd' : Int} {nm' ty' : ByteArray} {ve' vb' vl' : Value} (hr : (#[.int .i64 kd, .int .i64 U, .string nm, .string ty, ve, vb, vl] : Array Value).setIfInBounds i u = #[.int .i64 kd', .int .i64 U, .string nm', .string ty', ve', vb', vl']) : Xaz w B R L E D U kd' nm' ty' vb' vl' (Z.setCell ⟨E, i, none⟩ u) ve' us := by
 have hlo := h.lo
 have hB := h.hB
 have hrow := Xud h.row i u
 rw [hr] at hrow
 refine ⟨h.lo, h.hB, ?_, ?_, ?_, hrow, h.rd.setCell _ _ (by show B ≤ E; omega), h.chg.setCell _ _ fun e => by have : E < w.heap.size := e; omega⟩
 · rw [Below.heap_setCell _ _ _ _ (by show _ ≠ E; omega)]; exact h.r0
 · rw [Below.heap_setCell _ _ _ _ (by show _ ≠ E; omega)]; exact h.r1
 · rw [Below.heap_setCell _ _ _ _ (by show _ ≠ E; omega)]; exact h.res
theorem Xaz.setK (h : Xaz w B R L E D U kd nm ty vb vl Z ve us) (k : Int) : Xaz w B R L E D U k nm ty vb vl (Z.setCell ⟨E, 0, none⟩ (.int .i64 k)) ve us := h.put 0 _ rfl
theorem Xaz.setN (h : Xaz w B R L E D U kd nm ty vb vl Z ve us) (s : ByteArray) : Xaz w B R L E D U kd s ty vb vl (Z.setCell ⟨E, 2, none⟩ (.string s)) ve us := h.put 2 _ rfl
theorem Xaz.setT (h : Xaz w B R L E D U kd nm ty vb vl Z ve us) (s : ByteArray) : Xaz w B R L E D U kd nm s vb vl (Z.setCell ⟨E, 3, none⟩ (.string s)) ve us := h.put 3 _ rfl
theorem Xaz.setE (h : Xaz w B R L E D U kd nm ty vb vl Z ve us) (s : Value) : Xaz w B R L E D U kd nm ty vb vl (Z.setCell ⟨E, 4, none⟩ s) s us := h.put 4 _ rfl
theorem Xaz.setB (h : Xaz w B R L E D U kd nm ty vb vl Z ve us) (s : Value) : Xaz w B R L E D U kd nm ty s vl (Z.setCell ⟨E, 5, none⟩ s) ve us := h.put 5 _ rfl
theorem Xaz.setL (h : Xaz w B R L E D U kd nm ty vb vl Z ve us) (s : Value) : Xaz w B R L E D U kd nm ty vb s (Z.setCell ⟨E, 6, none⟩ s) ve us := h.put 6 _ rfl
theorem Xaz.keep (h : Xaz w B R L E D U kd nm ty vb vl Z ve us) (hk : ∀ b, b < E + 1 → b ≠ R → Z'.heap[b]? = Z.heap[b]?) (hr : RdAt Z' B R L us') (hc : Chg (fun b => b = R) w Z') : Xaz w B R L E D U kd nm ty vb vl Z' ve us' := by
 have hlo := h.lo
 have hB := h.hB
 have hR := hr.lt
 exact ⟨h.lo, h.hB, (hk _ (by omega) (by omega)).trans h.r0, (hk _ (by omega) (by omega)).trans h.r1, (hk _ (by omega) (by omega)).trans h.res, (hk _ (by omega) (by omega)).trans h.row, hr, hc⟩
theorem Xaz.step (h : Xaz w B R L E D U kd nm ty vb vl Z ve us) (hr : RdAt Z' B R L us') (hc : Chg (fun b => b = R) Z Z') : Xaz w B R L E D U kd nm ty vb vl Z' ve us' :=
 h.keep (fun b hb hn => hc.block b (by have := Xac h.row; omega) hn) hr (h.chg.up hc)
theorem Xaz.cells (h : Xaz w B R L E D U kd nm ty vb vl Z ve us) : Z.cell? ⟨w.heap.size, 0, none⟩ = some (.pointer (some ⟨R, 0, none⟩)) ∧ Z.cell? ⟨w.heap.size + 1, 0, none⟩ = some (.int .i64 D) :=
 ⟨by rw [cell_of_row Z _ 0 _ _ (0, 0) h.r0]; rfl, by rw [cell_of_row Z _ 0 _ _ (0, 0) h.r1]; rfl⟩
theorem Xaz.size (h : Xaz w B R L E D U kd nm ty vb vl Z ve us) : B ≤ Z.heap.size := by have := Xac h.row; have := h.lo; have := h.hB; omega
theorem Xaz.rlo (h : Xaz w B R L E D U kd nm ty vb vl Z ve us) : R < E + 1 := by have := h.rd.lt; have := h.hB; have := h.lo; omega
theorem Xaz.ok (h0 : w.heap.size + 3 ≤ E) (hB : B ≤ w.heap.size) : FrOk w B R L (E + 1) w.heap.size (w.heap.size + 1) ⟨E, 4, none⟩ D (Xaz w B R L E D U kd nm ty vb vl) where
 rd h := h.rd
 size h := by have := Xac h.row; omega
 chg h := h.chg
 c0 h := h.cells.1
 c1 h := h.cells.2
 cv h := (row7 h.row).2.2.2.2.1
 fz h := frozen_of_row _ _ _ _ _ h.row
 keep h hk _ hr hc := h.keep hk hr hc
 put v' h := h.setE v'
 l0 := by omega
 l1 := by omega
 lv := by show E < E + 1; omega
 lB := by omega
 lw := by omega
 n0 := by show E ≠ _; omega
 n1 := by show E ≠ _; omega
theorem Xrp {R lo : Nat} {ss : List Sm} {v : Value} (hR : R < lo) (h : Xay Z (fun b => lo ≤ b ∧ b < Z.heap.size) ss v) (hc : Chg (fun b => b = R) Z Z') : Xay Z' (fun b => lo ≤ b ∧ b < Z'.heap.size) ss v :=
 h.keep (fun b hb => hc.block b hb.2 (by have := hb.1; omega)) fun b hb => ⟨hb.1, Nat.lt_of_lt_of_le hb.2 hc.size⟩
theorem Xil {lo g i : Nat} {u : Value} {ss : List Sm} {v : Value} (hg : g < lo) (h : Xay Z (fun b => lo ≤ b ∧ b < Z.heap.size) ss v) : Xay (Z.setCell ⟨g, i, none⟩ u) (fun b => lo ≤ b ∧ b < (Z.setCell ⟨g, i, none⟩ u).heap.size) ss v :=
 h.keep (fun b hb => Below.heap_setCell _ _ _ _ (by show b ≠ g; have := hb.1; omega)) fun b hb => ⟨hb.1, by simpa [World.setCell] using hb.2⟩
theorem Xxj {R lo : Nat} {ss : List Ex} {v : Value} (hR : R < lo) (h : Xbb Z (fun b => lo ≤ b ∧ b < Z.heap.size) ss v) (hc : Chg (fun b => b = R) Z Z') : Xbb Z' (fun b => lo ≤ b ∧ b < Z'.heap.size) ss v :=
 h.keep (fun b hb => hc.block b hb.2 (by have := hb.1; omega)) fun b hb => ⟨hb.1, Nat.lt_of_lt_of_le hb.2 hc.size⟩
theorem Ycu {lo g i : Nat} {u : Value} {ss : List Ex} {v : Value} (hg : g < lo) (h : Xbb Z (fun b => lo ≤ b ∧ b < Z.heap.size) ss v) : Xbb (Z.setCell ⟨g, i, none⟩ u) (fun b => lo ≤ b ∧ b < (Z.setCell ⟨g, i, none⟩ u).heap.size) ss v :=
 h.keep (fun b hb => Below.heap_setCell _ _ _ _ (by show b ≠ g; have := hb.1; omega)) fun b hb => ⟨hb.1, by simpa [World.setCell] using hb.2⟩
theorem Xhf {lo : Nat} {v : Value} (h : Xaf Z (fun b => lo ≤ b) lo v xs) : Xbb Z (fun b => lo ≤ b ∧ b < Z.heap.size) xs v := Xaf.exsQ (Q := fun b => lo ≤ b) h (fun b hb => hb) (fun b hb => hb)
theorem Xbr {P : Nat → Prop} {lo g i : Nat} {u v : Value} (hP : ∀ b, P b → lo ≤ b) (hE : g < lo) (h : Xaf Z P lo v xs) : Xaf (Z.setCell ⟨g, i, none⟩ u) P lo v xs := Xaf.keep h (by simp [World.setCell]) fun b hb hx => Below.heap_setCell _ _ _ _ (by
  show b ≠ g
  rcases hx with hx | hx
  · have := hP b hx; omega
  · have := (h.lt hx).1; omega)
def sev (Z : World) (g : Nat) (kd U : Int) (nm ty : ByteArray) (ve vb vl : Value) : World :=
 ((((((Z.setCell ⟨g, 0, none⟩ (.int .i64 kd)).setCell ⟨g, 1, none⟩ (.int .i64 U)).setCell ⟨g, 2, none⟩ (.string nm)).setCell ⟨g, 3, none⟩ (.string ty)).setCell ⟨g, 4, none⟩ ve).setCell ⟨g, 5, none⟩ vb).setCell ⟨g, 6, none⟩ vl
theorem sev_chg (Z : World) (g : Nat) (kd U : Int) (nm ty : ByteArray) (ve vb vl : Value) : Chg (fun b => b = g) Z (sev Z g kd U nm ty ve vb vl) :=
 (((((((Chg.refl (fun b => b = g) Z).setCell _ _ fun _ => rfl).setCell _ _ fun _ => rfl).setCell _ _ fun _ => rfl).setCell _ _ fun _ => rfl).setCell _ _ fun _ => rfl).setCell _ _ fun _ => rfl).setCell _ _ fun _ => rfl
theorem Xaz.done (h : Xaz w B R L E D U kd nm ty vb vl Z ve us) {x : Sm} (he : Xbb Z (fun b => E + 1 ≤ b ∧ b < Z.heap.size) x.exprs ve) (hb : Xay Z (fun b => E + 1 ≤ b ∧ b < Z.heap.size) x.body vb) (hl : Xay Z (fun b => E + 1 ≤ b ∧ b < Z.heap.size) x.els vl)
  (hk : kd = x.kind) (hu : U = x.pl) (hn : nm = Xab x.name) (ht : ty = Xab x.type) (hln : x.name.length ≤ 16384) (hlt : x.type.length ≤ 16384) :
  Xaj (SmB w.heap.size) w B R L (.ok x us) (.returned (.agg #[.int .i64 kd, .int .i64 U, .string nm, .string ty, ve, vb, vl])) (sev Z (w.heap.size + 1 + 1) kd U nm ty ve vb vl) := by
 subst hk hu hn ht
 have hc := sev_chg Z (w.heap.size + 1 + 1) x.kind x.pl (Xab x.name) (Xab x.type) ve vb vl
 have hlo := h.lo
 have hB := h.hB
 have hlt := Xac h.row
 have hR := h.rd.lt
 have hw : ∀ b, (E + 1 ≤ b ∧ b < Z.heap.size) → (sev Z (w.heap.size + 1 + 1) x.kind x.pl (Xab x.name) (Xab x.type) ve vb vl).heap[b]? = Z.heap[b]? := fun b hb => hc.block b hb.2 (by have := hb.1; omega)
 have hS : ∀ b, (E + 1 ≤ b ∧ b < Z.heap.size) → (w.heap.size ≤ b ∧ b < (sev Z (w.heap.size + 1 + 1) x.kind x.pl (Xab x.name) (Xab x.type) ve vb vl).heap.size) := fun b hb => ⟨by have := hb.1; omega, Nat.lt_of_lt_of_le hb.2 hc.size⟩
 exact ⟨⟨_, rfl, ⟨ve, vb, vl⟩, rfl, by omega, by omega, he.keep hw hS, hb.keep hw hS, hl.keep hw hS⟩, h.rd.keep fun b hb => hc.block b (by omega) (by omega), h.chg.trans hc fun b hb e => by omega⟩
theorem Xdv {X w1 Y : World} {r : List Tok} (hB : B ≤ w.heap.size) (hR : R < w.heap.size) (hX : X = ((w.alloc (.cells #[.pointer (some ⟨R, 0, none⟩)] 52)).alloc (.cells #[.int .i64 D] 3)).alloc (.cells #[.int .i64 0, .int .i64 0, .string ⟨#[]⟩, .string ⟨#[]⟩, .slice none 0 0, .slice none 0 0, .slice none 0 0] 68))
  (hr : RdAt w1 B R L r) (hc : Chg (fun b => b = R) X w1) (o : Obj) (hY : Y = (w1.alloc o).alloc (.cells #[.int .i64 0, .int .i64 U, .string ⟨#[]⟩, .string ⟨#[]⟩, .slice none 0 0, .slice none 0 0, .slice none 0 0] 68)) :
  Xaz w B R L (w1.heap.size + 1) D U 0 ⟨#[]⟩ ⟨#[]⟩ (.slice none 0 0) (.slice none 0 0) Y (.slice none 0 0) r ∧ Y.heap[w1.heap.size]? = some o := by
 have hxs : X.heap.size = w.heap.size + 3 := by rw [hX]; simp
 have hbX : Below w.heap.size w X := by rw [hX]; exact ((Xae _ _).alloc (by simp) _).alloc (by simp; omega) _
 have hs1 := hc.size
 have hbY : Below w1.heap.size w1 Y := by rw [hY]; exact (Xae _ _).alloc (by simp) _
 have x0 : X.heap[w.heap.size]? = some (.cells #[.pointer (some ⟨R, 0, none⟩)] 52 (0, 0)) := by
  rw [hX, Below.heap_alloc _ _ _ (by simp; omega), Below.heap_alloc _ _ _ (by simp)]; exact heap_alloc_new _ _
 have x1 : X.heap[w.heap.size + 1]? = some (.cells #[.int .i64 D] 3 (0, 0)) := by
  rw [hX, Below.heap_alloc _ _ _ (by simp)]
  have := heap_alloc_new (w.alloc (.cells #[.pointer (some ⟨R, 0, none⟩)] 52)) (.cells #[.int .i64 D] 3)
  simpa using this
 have x2 : X.heap[w.heap.size + 1 + 1]? = some (.cells #[.int .i64 0, .int .i64 0, .string ⟨#[]⟩, .string ⟨#[]⟩, .slice none 0 0, .slice none 0 0, .slice none 0 0] 68 (0, 0)) := by
  rw [hX]
  have := heap_alloc_new ((w.alloc (.cells #[.pointer (some ⟨R, 0, none⟩)] 52)).alloc (.cells #[.int .i64 D] 3)) (.cells #[.int .i64 0, .int .i64 0, .string ⟨#[]⟩, .string ⟨#[]⟩, .slice none 0 0, .slice none 0 0, .slice none 0 0] 68)
  simpa using this
 have hk : ∀ g o, g < w.heap.size + 3 → g ≠ R → X.heap[g]? = some o → Y.heap[g]? = some o := fun g o h1 h2 h3 => (hbY.block g (by omega)).trans (hc.row h3 h2)
 refine ⟨⟨by omega, hB, hk _ _ (by omega) (by omega) x0, hk _ _ (by omega) (by omega) x1, hk _ _ (by omega) (by omega) x2, ?_, hr.below' (by omega) hbY, (Xbf hbX hc).up (Chg.of_below hbY)⟩, ?_⟩
 · rw [hY]
   have := heap_alloc_new (w1.alloc o) (.cells #[.int .i64 0, .int .i64 U, .string ⟨#[]⟩, .string ⟨#[]⟩, .slice none 0 0, .slice none 0 0, .slice none 0 0] 68)
   simpa using this
 · rw [hY, Below.heap_alloc _ _ _ (by simp)]; exact heap_alloc_new _ _
end
end
end Go.Proofs.YtbckeljbpknbdaaGreatDoor
