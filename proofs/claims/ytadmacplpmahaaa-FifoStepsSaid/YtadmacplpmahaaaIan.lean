/- FifoSteps: both queues in one world. -/
import Derived.Test.YtadmacplpmahaaaIam
import Derived.Test.YtadmacplpmahaaaIae
import Derived.Test.YtadmacplpmahaaaIaf
set_option linter.unusedVariables false
set_option linter.unusedSimpArgs false
namespace Go.Proofs.Ytadmacplpmahaaa
open Go.RowKit

/-- the program's queue (h, c), in which W waits, and the document's in the box g: cap places, the list U at u -/
structure Sp (wr : World) (base h c cap g : Nat) (W U : List Int) (u : Value) : Prop where
  q : QAt wr base h c cap W
  bs : base ≤ wr.heap.size
  gb : base ≤ g
  row : wr.heap[g]? = some (.cells #[.int .i64 (cap : Nat), u] 27 (0, 0))
  own : OwnN wr base u U
theorem Sp.glt {wr : World} {base h c cap g : Nat} {W U : List Int} {u : Value} (t : Sp wr base h c cap g W U u) : g < wr.heap.size := heap_lt t.row
theorem Sp.gh {wr : World} {base h c cap g : Nat} {W U : List Int} {u : Value} (t : Sp wr base h c cap g W U u) : g ≠ h ∧ g ≠ c ∧ u.ownBlock ≠ some g := by
  refine ⟨fun e => ?_, fun e => ?_, fun e => ?_⟩
  · have := t.q.row
    rw [← e, t.row] at this
    simp at this
  · obtain ⟨s, r, hc⟩ := t.q.chan
    rw [← e, t.row] at hc
    cases hc
  · rcases t.own.2 with ⟨hu, -⟩ | ⟨g', cap', cur, hu, -, hg, -⟩
    · rw [hu] at e; cases e
    · rw [hu] at e
      have e : g' = g := by simpa [Value.ownBlock] using e
      subst e
      rw [t.row] at hg
      simp at hg
theorem Sp.keep {wr w' : World} {base h c cap g : Nat} {W U : List Int} {u : Value} (t : Sp wr base h c cap g W U u) (hs : wr.heap.size ≤ w'.heap.size) (hk : ∀ b, b < wr.heap.size → b = h ∨ b = c ∨ b = g ∨ u.ownBlock = some b → w'.heap[b]? = wr.heap[b]?) : Sp w' base h c cap g W U u :=
  ⟨t.q.keep (hk h t.q.hlt (.inl rfl)) (hk c t.q.clt (.inr (.inl rfl))), Nat.le_trans t.bs hs, t.gb, (hk g t.glt (.inr (.inr (.inl rfl)))).trans t.row, t.own.keep fun b hb => hk b (t.own.lt hb).2 (.inr (.inr (.inr hb)))⟩
theorem Sp.below {wr w' : World} {base h c cap g : Nat} {W U : List Int} {u : Value} (t : Sp wr base h c cap g W U u) (hb : Below wr.heap.size wr w') : Sp w' base h c cap g W U u := t.keep hb.size fun b h1 _ => hb.block b h1
/-- the channel is turned -/
theorem Sp.only {wr w' : World} {base h c cap g : Nat} {W W' U : List Int} {u : Value} (t : Sp wr base h c cap g W U u) (q' : QAt w' base h c cap W') (H : Only c base wr w') : Sp w' base h c cap g W' U u :=
  ⟨q', Nat.le_trans t.bs H.size, t.gb, (H.blk g t.glt (by rw [Ne, Option.some.injEq]; exact fun e => t.gh.2.1 e.symm)).trans t.row, t.own.chg H (fun b hb e => (t.own.apart t.q).2 (by rw [hb]; exact e.symm))⟩
theorem two_row {w : World} {z : Nat} {o0 o1 : Value} {t : TypeId} (hrow : w.heap[z]? = some (.cells #[o0, o1] t (0, 0))) (u0 u1 : Value) {W : World} (hW : (w.setCell ⟨z, 0, none⟩ u0).setCell ⟨z, 1, none⟩ u1 = W) :
    W.heap[z]? = some (.cells #[u0, u1] t (0, 0)) ∧ (∀ b, b ≠ z → W.heap[b]? = w.heap[b]?) ∧ Below z w W ∧ W.heap.size = w.heap.size := by
  have e : (w.setCell ⟨z, 0, none⟩ u0).setCell ⟨z, 1, none⟩ u1 = w.setRow z #[u0, u1] := by
    have e : ∀ (c : Array Value) (i : Nat) (u : Value), ((w.setRow z c).setCell ⟨z, i, none⟩ u) = w.setRow z (c.setIfInBounds i u) := fun c i u => by
      rw [setCell_eq_setRow (w.setRow z c) z i c _ _ u (setRow_heap w z _ c _ _ hrow), setRow_setRow]
    rw [setCell_eq_setRow w z 0 _ _ _ u0 hrow, e]
    rfl
  rw [e] at hW
  subst hW
  exact ⟨setRow_heap w z _ #[u0, u1] _ _ hrow, fun b hb => setRow_other w z b _ (fun e => hb (by omega)), ⟨rfl, rfl, rfl, by simp, fun b hb => setRow_other w z b _ (by omega)⟩, by simp⟩
theorem OwnN.box {w : World} {base : Nat} {v : Value} {xs : List Int} (h : OwnN w base v xs) {g : Nat} {cs : Array Value} (row : w.heap[g]? = some (.cells cs 27 (0, 0))) : v.ownBlock ≠ some g := by
  intro e
  rcases h.2 with ⟨hu, -⟩ | ⟨g', cap', cur, hu, -, hg, -⟩
  · rw [hu] at e; cases e
  · rw [hu] at e
    have e : g' = g := by simpa [Value.ownBlock] using e
    subst e
    rw [row] at hg
    simp at hg
/-- the box is written anew -/
theorem Sp.put {wr wx V : World} {base h c cap g : Nat} {W U U' : List Int} {u u' : Value} (t : Sp wr base h c cap g W U u) (hb : Below wr.heap.size wr wx) (o' : OwnN wx base u' U')
    (hV : (wx.setCell ⟨g, 0, none⟩ (.int .i64 (cap : Nat))).setCell ⟨g, 1, none⟩ u' = V) : Sp V base h c cap g W U' u' ∧ Below base wr V ∧ (∀ b, b < wr.heap.size → b ≠ g → V.heap[b]? = wr.heap[b]?) := by
  have t2 := t.below hb
  obtain ⟨g1, g2, g3, g4⟩ := two_row t2.row _ _ hV
  have hgb := t.gb
  exact ⟨⟨t2.q.keep (g2 h t2.gh.1.symm) (g2 c t2.gh.2.1.symm), by rw [g4]; exact t2.bs, t.gb, g1, o'.keep fun b hb2 => g2 b (fun e => o'.box t2.row (by rw [hb2, e]))⟩, (hb.mono t.bs).trans (g3.mono hgb), fun b h1 h2 => (g2 b h2).trans (hb.block b h1)⟩

end Go.Proofs.Ytadmacplpmahaaa
