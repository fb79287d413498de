/- Gc -/
import Derived.Test.YtbckeljbpknbdaaGreatDoorVc2
import Derived.Test.YtbckeljbpknbdaaGreatDoorVd0
set_option linter.unusedVariables false
set_option linter.unusedSimpArgs false
namespace Go.Proofs.YtbckeljbpknbdaaGreatDoor
open Go.RowKit
section
structure Xbt (w : World) (B R L E : Nat) (U : Int) (nm : ByteArray) (kd nu : Int) (ty : ByteArray) (vp vb : Value) (Z : World) (us : List Tok) : Prop where
 lo : w.heap.size < E
 hB : B ≤ w.heap.size
 res : Z.heap[w.heap.size]? = some (.cells #[.int .i64 0, .int .i64 0, .int .i64 0, .string ⟨#[]⟩, .string ⟨#[]⟩, .slice none 0 0, .slice none 0 0] 46 (0, 0))
 row : Z.heap[E]? = some (.cells #[.int .i64 kd, .int .i64 U, .int .i64 nu, .string nm, .string ty, vp, vb] 46 (0, 0))
 rd : RdAt Z B R L us
 chg : Chg (fun b => b = R) w Z
section
variable {w Z Z' : World} {B R L E : Nat} {kd U nu : Int} {nm ty : ByteArray} {vp vb : Value} {us us' : List Tok}
theorem Xbt.put (h : Xbt w B R L E U nm kd nu ty vp vb Z us) (i : Nat) (u : Value) {kd' nu' : Int} {ty' : ByteArray} {vp' vb' : Value} (hr : (#[.int .i64 kd, .int .i64 U, .int .i64 nu, .string nm, .string ty, vp, vb] : Array Value).setIfInBounds i u = #[.int .i64 kd', .int .i64 U, .int .i64 nu', .string nm, .string ty', vp', vb']) : Xbt w B R L E U nm kd' nu' ty' vp' vb' (Z.setCell ⟨E, i, none⟩ u) us := by
 have hlo := h.lo
 have hB := h.hB
 have hrow := Xud h.row i u
 rw [hr] at hrow
 refine ⟨h.lo, h.hB, ?_, hrow, h.rd.setCell _ _ (by show B ≤ E; omega), h.chg.setCell _ _ fun e => by have : E < w.heap.size := e; omega⟩
 rw [Below.heap_setCell _ _ _ _ (by show _ ≠ E; omega)]; exact h.res
theorem Xbt.setK (h : Xbt w B R L E U nm kd nu ty vp vb Z us) (k : Int) : Xbt w B R L E U nm k nu ty vp vb (Z.setCell ⟨E, 0, none⟩ (.int .i64 k)) us := h.put 0 _ rfl
theorem Xbt.setU (h : Xbt w B R L E U nm kd nu ty vp vb Z us) (k : Int) : Xbt w B R L E U nm kd k ty vp vb (Z.setCell ⟨E, 2, none⟩ (.int .i64 k)) us := h.put 2 _ rfl
theorem Xbt.setT (h : Xbt w B R L E U nm kd nu ty vp vb Z us) (s : ByteArray) : Xbt w B R L E U nm kd nu s vp vb (Z.setCell ⟨E, 4, none⟩ (.string s)) us := h.put 4 _ rfl
theorem Xbt.setP (h : Xbt w B R L E U nm kd nu ty vp vb Z us) (s : Value) : Xbt w B R L E U nm kd nu ty s vb (Z.setCell ⟨E, 5, none⟩ s) us := h.put 5 _ rfl
theorem Xbt.setB (h : Xbt w B R L E U nm kd nu ty vp vb Z us) (s : Value) : Xbt w B R L E U nm kd nu ty vp s (Z.setCell ⟨E, 6, none⟩ s) us := h.put 6 _ rfl
theorem Xbt.step (h : Xbt w B R L E U nm kd nu ty vp vb Z us) (hr : RdAt Z' B R L us') (hc : Chg (fun b => b = R) Z Z') : Xbt w B R L E U nm kd nu ty vp vb Z' us' := by
 have hlo := h.lo
 have hB := h.hB
 have hR := hr.lt
 exact ⟨h.lo, h.hB, hc.row h.res (by omega), hc.row h.row (by omega), hr, h.chg.up hc⟩
theorem Xbt.size (h : Xbt w B R L E U nm kd nu ty vp vb Z us) : B ≤ Z.heap.size := by have := Xac h.row; have := h.lo; have := h.hB; omega
theorem Xbt.rlo (h : Xbt w B R L E U nm kd nu ty vp vb Z us) : R < E + 1 := by have := h.rd.lt; have := h.hB; have := h.lo; omega
theorem Xkg {R lo : Nat} {ss : List Pr} {v : Value} (hR : R < lo) (h : Xca Z (fun b => lo ≤ b ∧ b < Z.heap.size) ss v) (hc : Chg (fun b => b = R) Z Z') : Xca Z' (fun b => lo ≤ b ∧ b < Z'.heap.size) ss v :=
 h.keep (fun b hb => hc.block b hb.2 (by have := hb.1; omega)) fun b hb => ⟨hb.1, Nat.lt_of_lt_of_le hb.2 hc.size⟩
theorem Xjn {lo g i : Nat} {u : Value} {ss : List Pr} {v : Value} (hg : g < lo) (h : Xca Z (fun b => lo ≤ b ∧ b < Z.heap.size) ss v) : Xca (Z.setCell ⟨g, i, none⟩ u) (fun b => lo ≤ b ∧ b < (Z.setCell ⟨g, i, none⟩ u).heap.size) ss v :=
 h.keep (fun b hb => Below.heap_setCell _ _ _ _ (by show b ≠ g; have := hb.1; omega)) fun b hb => ⟨hb.1, by simpa [World.setCell] using hb.2⟩
theorem Xca.nil (w : World) (S : Nat → Prop) : Xca w S [] (.slice none 0 0) := ⟨none, 0, rfl, Nat.le_refl _, by omega, fun k hk => absurd hk (by simp)⟩
def sevD (Z : World) (g : Nat) (kd U nu : Int) (nm ty : ByteArray) (vp vb : Value) : World :=
 ((((((Z.setCell ⟨g, 0, none⟩ (.int .i64 kd)).setCell ⟨g, 1, none⟩ (.int .i64 U)).setCell ⟨g, 2, none⟩ (.int .i64 nu)).setCell ⟨g, 3, none⟩ (.string nm)).setCell ⟨g, 4, none⟩ (.string ty)).setCell ⟨g, 5, none⟩ vp).setCell ⟨g, 6, none⟩ vb
theorem sevD_chg (Z : World) (g : Nat) (kd U nu : Int) (nm ty : ByteArray) (vp vb : Value) : Chg (fun b => b = g) Z (sevD Z g kd U nu nm ty vp vb) :=
 (((((((Chg.refl (fun b => b = g) Z).setCell _ _ fun _ => rfl).setCell _ _ fun _ => rfl).setCell _ _ fun _ => rfl).setCell _ _ fun _ => rfl).setCell _ _ fun _ => rfl).setCell _ _ fun _ => rfl).setCell _ _ fun _ => rfl
theorem Xbt.done (h : Xbt w B R L E U nm kd nu ty vp vb Z us) {x : Dc} (hp : Xca Z (fun b => E + 1 ≤ b ∧ b < Z.heap.size) x.pairs vp) (hb : Xay Z (fun b => E + 1 ≤ b ∧ b < Z.heap.size) x.body vb)
  (hk : kd = x.kind) (hu : U = x.pl) (hm : nu = x.num) (hn : nm = Xab x.name) (ht : ty = Xab x.type) (hln : x.name.length ≤ 16384) (hlt : x.type.length ≤ 16384) :
  Xaj (DcB w.heap.size) w B R L (.ok x us) (.returned (.agg #[.int .i64 kd, .int .i64 U, .int .i64 nu, .string nm, .string ty, vp, vb])) (sevD Z w.heap.size kd U nu nm ty vp vb) := by
 subst hk hu hn ht hm
 have hc := sevD_chg Z w.heap.size x.kind x.pl x.num (Xab x.name) (Xab x.type) vp vb
 have hlo := h.lo
 have hB := h.hB
 have hlt := Xac h.row
 have hR := h.rd.lt
 have hw : ∀ b, (E + 1 ≤ b ∧ b < Z.heap.size) → (sevD Z w.heap.size x.kind x.pl x.num (Xab x.name) (Xab x.type) vp vb).heap[b]? = Z.heap[b]? := fun b hb => hc.block b hb.2 (by have := hb.1; omega)
 have hS : ∀ b, (E + 1 ≤ b ∧ b < Z.heap.size) → (w.heap.size ≤ b ∧ b < (sevD Z w.heap.size x.kind x.pl x.num (Xab x.name) (Xab x.type) vp vb).heap.size) := fun b hb => ⟨by have := hb.1; omega, Nat.lt_of_lt_of_le hb.2 hc.size⟩
 exact ⟨⟨_, rfl, ⟨vp, vb⟩, rfl, by omega, by omega, hp.keep hw hS, hb.keep hw hS⟩, h.rd.keep fun b hb => hc.block b (by omega) (by omega), h.chg.trans hc fun b hb e => by omega⟩
theorem Xew {X w3 Y : World} {r : List Tok} (hB : B ≤ w.heap.size) (hR : R < w.heap.size) (hX : X = w.alloc (.cells #[.int .i64 0, .int .i64 0, .int .i64 0, .string ⟨#[]⟩, .string ⟨#[]⟩, .slice none 0 0, .slice none 0 0] 46))
  (hr : RdAt w3 B R L r) (hc : Chg (fun b => b = R) X w3) (o : Obj) (hY : Y = (w3.alloc o).alloc (.cells #[.int .i64 0, .int .i64 U, .int .i64 0, .string nm, .string ⟨#[]⟩, .slice none 0 0, .slice none 0 0] 46)) :
  Xbt w B R L (w3.heap.size + 1) U nm 0 0 ⟨#[]⟩ (.slice none 0 0) (.slice none 0 0) Y r := by
 have hxs : X.heap.size = w.heap.size + 1 := by rw [hX]; simp
 have hbX : Below w.heap.size w X := by rw [hX]; exact Xae _ _
 have hs1 := hc.size
 have hbY : Below w3.heap.size w3 Y := by rw [hY]; exact (Xae _ _).alloc (by simp) _
 have x0 : X.heap[w.heap.size]? = some (.cells #[.int .i64 0, .int .i64 0, .int .i64 0, .string ⟨#[]⟩, .string ⟨#[]⟩, .slice none 0 0, .slice none 0 0] 46 (0, 0)) := by rw [hX]; exact heap_alloc_new _ _
 refine ⟨by omega, hB, (hbY.block _ (by omega)).trans (hc.row x0 (by omega)), ?_, hr.below' (by omega) hbY, (Xbf hbX hc).up (Chg.of_below hbY)⟩
 rw [hY]
 have := heap_alloc_new (w3.alloc o) (.cells #[.int .i64 0, .int .i64 U, .int .i64 0, .string nm, .string ⟨#[]⟩, .slice none 0 0, .slice none 0 0] 46)
 simpa using this
end
end
end Go.Proofs.YtbckeljbpknbdaaGreatDoor
