/- Fo -/
import Derived.Test.YtbckeljbpknbdaaGreatDoorVb2
import Derived.Test.YtbckeljbpknbdaaGreatDoorVb3
set_option linter.unusedVariables false
set_option linter.unusedSimpArgs false
namespace Go.Proofs.YtbckeljbpknbdaaGreatDoor
open Go.RowKit
section
structure Xkx (T : TypeId) (w : World) (B R : Nat) (D : Int) (Z : World) (v : Value) : Prop where
 hB : B ≤ w.heap.size
 hR : R < B
 r0 : Z.heap[w.heap.size]? = some (.cells #[.pointer (some ⟨R, 0, none⟩)] 52 (0, 0))
 r1 : Z.heap[w.heap.size + 1]? = some (.cells #[.int .i64 D] 3 (0, 0))
 rl : Z.heap[w.heap.size + 1 + 1]? = some (.cells #[v] T (0, 0))
 chg : Chg (fun b => b = R) w Z
section
variable {T : TypeId} {w Z Z' : World} {B R L : Nat} {D : Int} {v : Value} {us : List Tok}
theorem Xkx.keep (h : Xkx T w B R D Z v) (hk : ∀ b, b < w.heap.size + 3 → b ≠ R → Z'.heap[b]? = Z.heap[b]?) (hc : Chg (fun b => b = R) w Z') : Xkx T w B R D Z' v := by
 have hB := h.hB
 have hR := h.hR
 exact ⟨h.hB, h.hR, (hk _ (by omega) (by omega)).trans h.r0, (hk _ (by omega) (by omega)).trans h.r1, (hk _ (by omega) (by omega)).trans h.rl, hc⟩
theorem Xkx.lt (h : Xkx T w B R D Z v) : w.heap.size + 3 ≤ Z.heap.size := by have := Xac h.rl; omega
theorem Xkx.step (h : Xkx T w B R D Z v) (hc : Chg (fun b => b = R) Z Z') : Xkx T w B R D Z' v := h.keep (fun b hb hn => hc.block b (by have := h.lt; omega) hn) (h.chg.up hc)
def LsFr (T : TypeId) (w : World) (B R L : Nat) (D : Int) (Z : World) (v : Value) (us : List Tok) : Prop := Xkx T w B R D Z v ∧ RdAt Z B R L us
theorem Xkx.cells (h : Xkx T w B R D Z v) : Z.cell? ⟨w.heap.size, 0, none⟩ = some (.pointer (some ⟨R, 0, none⟩)) ∧ Z.cell? ⟨w.heap.size + 1, 0, none⟩ = some (.int .i64 D) ∧ Z.cell? ⟨w.heap.size + 1 + 1, 0, none⟩ = some v ∧ Z.frozen? ⟨w.heap.size + 1 + 1, 0, none⟩ = false :=
 ⟨by rw [cell_of_row Z _ 0 _ _ (0, 0) h.r0]; rfl, by rw [cell_of_row Z _ 0 _ _ (0, 0) h.r1]; rfl, by rw [cell_of_row Z _ 0 _ _ (0, 0) h.rl]; rfl, frozen_of_row Z _ 0 _ _ h.rl⟩
theorem ls_ok (hB : B ≤ w.heap.size) : FrOk w B R L (w.heap.size + 3) w.heap.size (w.heap.size + 1) ⟨w.heap.size + 1 + 1, 0, none⟩ D (LsFr T w B R L D) where
 rd h := h.2
 size h := h.1.lt
 chg h := h.1.chg
 c0 h := h.1.cells.1
 c1 h := h.1.cells.2.1
 cv h := h.1.cells.2.2.1
 fz h := h.1.cells.2.2.2
 keep h hk _ hr hc := ⟨h.1.keep hk hc, hr⟩
 put v' h := by
  have hB := h.1.hB
  have hR := h.1.hR
  refine ⟨⟨h.1.hB, h.1.hR, ?_, ?_, ?_, h.1.chg.setCell _ _ fun e => by have : w.heap.size + 1 + 1 < w.heap.size := e; omega⟩, h.2.setCell _ _ (by show B ≤ w.heap.size + 1 + 1; omega)⟩
  · rw [Below.heap_setCell _ _ _ _ (by show _ ≠ w.heap.size + 1 + 1; omega)]; exact h.1.r0
  · rw [Below.heap_setCell _ _ _ _ (by show _ ≠ w.heap.size + 1 + 1; omega)]; exact h.1.r1
  · exact Xrn h.1.rl _
 l0 := by omega
 l1 := by omega
 lv := by show w.heap.size + 1 + 1 < _; omega
 lB := by omega
 lw := by omega
 n0 := by show w.heap.size + 1 + 1 ≠ _; omega
 n1 := by show w.heap.size + 1 + 1 ≠ _; omega
theorem Xxs {Y : World} (hB : B ≤ w.heap.size) (h : RdAt w B R L us) (hY : Y = ((w.alloc (.cells #[.pointer (some ⟨R, 0, none⟩)] 52)).alloc (.cells #[.int .i64 D] 3)).alloc (.cells #[.slice none 0 0] T)) :
  LsFr T w B R L D Y (.slice none 0 0) us := by
 have hb : Below w.heap.size w Y := by rw [hY]; exact ((Xae _ _).alloc (by simp) _).alloc (by simp; omega) _
 refine ⟨⟨hB, h.lt, ?_, ?_, ?_, Chg.of_below hb⟩, h.below' hB hb⟩
 · rw [hY, Below.heap_alloc _ _ _ (by simp; omega), Below.heap_alloc _ _ _ (by simp)]; exact heap_alloc_new _ _
 · rw [hY, Below.heap_alloc _ _ _ (by simp)]
   have := heap_alloc_new (w.alloc (.cells #[.pointer (some ⟨R, 0, none⟩)] 52)) (.cells #[.int .i64 D] 3)
   simpa using this
 · rw [hY]
   have := heap_alloc_new ((w.alloc (.cells #[.pointer (some ⟨R, 0, none⟩)] 52)).alloc (.cells #[.int .i64 D] 3)) (.cells #[.slice none 0 0] T)
   simpa using this
end
theorem Xjc {B R L : Nat} {shut : List UInt8} (hs : shut ≠ []) (w : World) (us : List Tok) (h : RdAt w B R L us) (hB : B ≤ w.heap.size) (ht : tx us = shut) : Calls Tryz.prog 50 #[.pointer (some ⟨R, 0, none⟩), .slice (some ⟨w.heap.size, 0, none⟩) 1 1] (w.alloc (.cells #[.string (Xab shut)] 9)) fun e w' =>
   (∃ v, e = .returned v) ∧ (shut ≠ [] → RdAt w' B R L us.tail) ∧ Chg (fun b => b = R) w w' := by
 cases us with
 | nil => exact absurd ht.symm hs
 | cons t r =>
   have h1 := Xan h hB [shut] (by simp) (by simpa using hs.symm)
   have h2 : Xal L [shut] (t :: r) = .ok t r := by rw [Xal, if_pos (by have h9 : t.text = shut := ht; simp [h9])]
   rw [h2] at h1
   refine h1.mono ?_
   rintro e w' ⟨⟨v, rfl, -⟩, hr, hc⟩
   exact ⟨⟨v, rfl⟩, fun _ => hr, hc⟩
theorem Xgz {w w0 w' : World} {R : Nat} (h0 : Chg (fun b => b = R) w w0) (h : Chg (fun b => b = R) w w') (hs : w0.heap.size ≤ w'.heap.size) : Chg (fun b => b = R ∨ w.heap.size ≤ b) w0 w' :=
 ⟨h.os.trans h0.os.symm, h.tape.trans h0.tape.symm, h.output.trans h0.output.symm, hs, fun b hb hn => by
  have hlt : b < w.heap.size := by omega
  rw [h.block b hlt (fun e => hn (.inl e)), h0.block b hlt (fun e => hn (.inl e))]⟩
theorem Xfn {w w0 w' : World} {R : Nat} (h0 : Chg (fun b => b = R) w w0) (h : Chg (fun b => b = R ∨ w.heap.size ≤ b) w0 w') : Chg (fun b => b = R) w w' :=
 ⟨h.os.trans h0.os, h.tape.trans h0.tape, h.output.trans h0.output, Nat.le_trans h0.size h.size, fun b hb hn => (h.block b (by have := h0.size; omega) (by omega)).trans (h0.block b hb hn)⟩
end
end Go.Proofs.YtbckeljbpknbdaaGreatDoor
