/- Layer 8: what an expression gives: the contract of (*valuer).expr, by induction over its parts. -/
import Derived.Test.YtadkimnpeachpaaGreatDoorPve
import Derived.Deep.RegionHeld3
import Derived.Deep.CutBlock
set_option linter.unusedVariables false
set_option linter.unusedSimpArgs false
namespace Go.Proofs.YtadkimnpeachpaaGreatDoor
open Go.RowKit

theorem take_at {P : Program} {ops : Array Oper} {Q : Exit → Act → World → Prop} {md : Region.Mode} {S : World → Prop} {i d : Nat} {oi : Oper} {v : Value} {fuel : Nat} {listed : Array Bool} {a : Act} {w : World} (hi : ops[i]? = some oi) (hd : oi.dst = some d)
    (hs : Region.noSelect ops = true) (hf : Region.free md ops listed i = true) (hr : (Region.ready md ops listed).contains i = true)
    (hQ : ∀ c a w, Q (.panic c) (a.put oi.dst v) w → Q (.panic c) a w) (hy : YieldsIf P ops S oi v a) (hS : S w)
    (h : wpAnyH P md ops Q S fuel (listed.setIfInBounds i true) ⟨a.tmps.setIfInBounds d v, a.defers⟩ w) : wpAnyH P md ops Q S (fuel + 1) listed a w :=
  wpAnyH_take hi hs hf hr hQ hy hS (by rw [hd]; exact h)
/-- all blocks but one stay -/
structure But (g B : Nat) (w w' : World) : Prop where
  size : w.heap.size ≤ w'.heap.size
  blk : ∀ b, b < w.heap.size → b ≠ g → w'.heap[b]? = w.heap[b]?
  bel : Below B w w'
theorem But.refl (g B : Nat) (w : World) : But g B w w := ⟨Nat.le_refl _, fun _ _ _ => rfl, Below.refl _ w⟩
theorem But.trans {g B : Nat} {w w' w'' : World} (h : But g B w w') (h' : But g B w' w'') : But g B w w'' :=
  ⟨Nat.le_trans h.size h'.size, fun b hb hn => (h'.blk b (Nat.lt_of_lt_of_le hb h.size) hn).trans (h.blk b hb hn), h.bel.trans h'.bel⟩
theorem But.of_below {B g : Nat} {w w' : World} (h : Below w.heap.size w w') (hB : B ≤ w.heap.size) : But g B w w' := ⟨h.size, fun b hb _ => h.block b hb, h.mono hB⟩
theorem But.cell {g B : Nat} {w w' : World} (h : But g B w w') {b i : Nat} {v : Value} (hc : w.cell? ⟨b, i, none⟩ = some v) (hn : b ≠ g) : w'.cell? ⟨b, i, none⟩ = some v :=
  (World.cell?_of_block (h.blk b (World.block_lt_of_cell? w _ hc) hn)).trans hc
theorem VBox.below {w w' : World} {g : Nat} {nv iv : Value} {left : Int} (h : VBox w g nv iv left) (hb : Below w.heap.size w w') : VBox w' g nv iv left := (hb.block g h.lt).trans h
/-- the box of an expression is laid, one part is taken -/
theorem VBox.dec {w : World} {g B : Nat} {nv iv : Value} {left : Int} (h : VBox w g nv iv left) (hB : B ≤ g) (cs : Array Value) (e : TypeId) (l : Int) :
    VBox ((w.setCell ⟨g, 2, none⟩ (.int .i64 l)).alloc (.cells cs e)) g nv iv l ∧ But g B w ((w.setCell ⟨g, 2, none⟩ (.int .i64 l)).alloc (.cells cs e)) ∧
      ((w.setCell ⟨g, 2, none⟩ (.int .i64 l)).alloc (.cells cs e)).heap[w.heap.size]? = some (.cells cs e (0, 0)) ∧ ((w.setCell ⟨g, 2, none⟩ (.int .i64 l)).alloc (.cells cs e)).heap.size = w.heap.size + 1 := by
  have hlt := h.lt
  have hs : (w.setCell ⟨g, 2, none⟩ (.int .i64 l)).heap.size = w.heap.size := by simp
  have h1 : VBox (w.setCell ⟨g, 2, none⟩ (.int .i64 l)) g nv iv l := by
    unfold VBox at h ⊢
    simp [World.setCell, Array.getElem?_modify, h]
  refine ⟨h1.below ((Below.refl _ _).alloc (Nat.le_refl _) _), ⟨by simp, fun b hb hn => ?_, ?_⟩, ?_, by simp⟩
  · rw [Below.heap_alloc _ _ _ (by rw [hs]; exact hb)]
    exact Below.heap_setCell _ _ _ _ hn
  · exact ((Below.refl _ _).setCell (p := ⟨g, 2, none⟩) hB _).alloc (by rw [hs]; omega) _
  · have := heap_alloc_new (w.setCell ⟨g, 2, none⟩ (.int .i64 l)) (.cells cs e)
    rw [hs] at this
    exact this

theorem kV_no {nms : List (List UInt8)} {xs : List Int} {k n : Int} {s : List UInt8} {vs : List Int} (h : mayB k s = false) : kV nms xs k n s vs = 0 := by
  unfold mayB at h
  simp only [Bool.or_eq_false_iff, Bool.and_eq_false_iff, beq_eq_false_iff_ne] at h
  obtain ⟨⟨⟨h1, h4⟩, h9⟩, h10⟩ := h
  unfold kV
  rw [if_neg h1, if_neg h4]
  split
  · rename_i h
    rcases h9 with h9 | h9
    · exact absurd h h9
    · rw [if_neg (fun hh => h9 hh.1)]
  · split
    · rename_i h
      rcases h10 with h10 | ⟨⟨⟨⟨a1, a2⟩, a3⟩, a4⟩, a5⟩
      · exact absurd h h10
      · split
        · unfold opV
          rw [if_neg a1, if_neg a2, if_neg a3, if_neg a4, if_neg a5]
        · rfl
    · rfl
theorem mayB_nine {s : List UInt8} (h : mayB 9 s = true) : s = [45] := by
  unfold mayB at h
  simpa using h
theorem mayB_tenS {s : List UInt8} (h : mayB 10 s = true) : s ∈ [[43], [45], [42], [47], [37]] := by
  unfold mayB at h
  simp at h
  simp
  rcases h with (((h | h) | h) | h) | h <;> simp [h]

/-- what an expression with such arguments gives -/
def ValP (w0 : World) (B : Nat) (nms : List (List UInt8)) (xs : List Int) (nv iv : Value) (es : List Ex) (v : Value) : Prop :=
  ∀ (k p n deep left : Int) (s : List UInt8) (g : Nat) (w : World), Below B w0 w → B ≤ g → VBox w g nv iv left → s.length ≤ 140737488355328 → (partsL es : Int) < left → left ≤ 2147483647 → 0 < deep → deep + (deepL es : Int) ≤ 65536 →
    Calls Tryz.prog 20 #[.pointer (some ⟨g, 0, none⟩), .agg #[.int .i64 k, .int .i64 p, .int .i64 n, .string (strOf s), v], .int .i64 deep] w fun e w' =>
      e = .returned (.int .i64 (valE nms xs (.mk k p n s es))) ∧ ∃ left', left - 1 - (partsL es : Int) ≤ left' ∧ left' < left ∧ VBox w' g nv iv left' ∧ But g B w w'

theorem But.box {g B : Nat} {w W w' : World} (h : But g B w W) (hb : Below W.heap.size W w') (hB : B ≤ W.heap.size) : But g B w w' := h.trans (But.of_below hb hB)

/-- what all walks of expr know, behind its first lines -/
structure VF (w0 : World) (B : Nat) (nms : List (List UInt8)) (xs : List Int) (nv iv : Value) (es : List Ex) (A : Option Addr) (c : Nat) (k p n deep L : Int) (s : List UInt8) (g G : Nat) (W : World) : Prop where
  may : ∀ wx, Calls Tryz.prog 36 #[.agg #[.int .i64 k, .int .i64 p, .int .i64 n, .string (strOf s), .slice A es.length c]] wx fun e w' => e = .returned (.bool (mayB k s)) ∧ Below wx.heap.size wx w'
  box : W.heap[G]? = some (.cells #[.int .i64 k, .int .i64 p, .int .i64 n, .string (strOf s), .slice A es.length c] 24 (0, 0))
  v : VBox W g nv iv L
  gG : g < G
  Bg : B ≤ g
  GW : G < W.heap.size
  bel : Below B w0 W
  hn : Lies KT w0 (· < B) nms nv
  hi : Lies KI w0 (· < B) xs iv
  L0 : (partsL es : Int) ≤ L
  L1 : L ≤ 2147483646
  d0 : 0 < deep
  d1 : deep + (deepL es : Int) ≤ 65536
  kid : ∀ (j : Nat) (hj : j < es.length), ∃ b off u, A = some ⟨b, off, none⟩ ∧ b < B ∧ w0.cell? ⟨b, off + j * 5, none⟩ = some (.int .i64 es[j].kind) ∧ w0.cell? ⟨b, off + j * 5 + 1, none⟩ = some (.int .i64 es[j].pl) ∧
    w0.cell? ⟨b, off + j * 5 + 2, none⟩ = some (.int .i64 es[j].num) ∧ w0.cell? ⟨b, off + j * 5 + 3, none⟩ = some (.string (strOf es[j].name)) ∧ w0.cell? ⟨b, off + j * 5 + 4, none⟩ = some u ∧
    ∀ (l : Int) (wx : World), Below B w0 wx → VBox wx g nv iv l → (parts es[j] : Int) ≤ l → l ≤ 2147483647 →
      Calls Tryz.prog 20 #[.pointer (some ⟨g, 0, none⟩), .agg #[.int .i64 es[j].kind, .int .i64 es[j].pl, .int .i64 es[j].num, .string (strOf es[j].name), u], .int .i64 (deep + 1)] wx fun e w' =>
        e = .returned (.int .i64 (valE nms xs es[j])) ∧ ∃ l', l - parts es[j] ≤ l' ∧ l' < l ∧ VBox w' g nv iv l' ∧ But g B wx w'
theorem VF.z {w0 : World} {B : Nat} {nms : List (List UInt8)} {xs : List Int} {nv iv : Value} {es : List Ex} {A : Option Addr} {c : Nat} {k p n deep L : Int} {s : List UInt8} {g G : Nat} {W : World} (X : VF w0 B nms xs nv iv es A c k p n deep L s g G W) {w' : World} (h : w'.heap[G]? = W.heap[G]?) :
    w'.cell? ⟨G, 0, none⟩ = some (.int .i64 k) ∧ w'.cell? ⟨G, 1, none⟩ = some (.int .i64 p) ∧ w'.cell? ⟨G, 2, none⟩ = some (.int .i64 n) ∧ w'.cell? ⟨G, 3, none⟩ = some (.string (strOf s)) ∧ w'.cell? ⟨G, 4, none⟩ = some (.slice A es.length c) := by
  have hr := h.trans X.box
  refine ⟨?_, ?_, ?_, ?_, ?_⟩
  all_goals rw [cell_of_row w' _ _ _ _ (0, 0) hr]; rfl

end Go.Proofs.YtadkimnpeachpaaGreatDoor
