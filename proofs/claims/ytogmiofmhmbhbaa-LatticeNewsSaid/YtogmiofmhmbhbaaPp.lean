/- Plain: what the document says of a lattice is what the program says. -/
import Derived.Test.YtogmiofmhmbhbaaOd
namespace Go.Proofs.Ytogmiofmhmbhbaa
open Go.RowKit

theorem most_says {n : Nat} {U : List Nat} {f : Tab} (p : Pre n U) (s : Says n U f) (a b : Int) : mostF n f a b = mst U a b := by
  unfold mostF mst isLev
  rw [Bool.eq_iff_iff]
  simp only [Bool.and_eq_true, decide_eq_true_eq, p.len]
  constructor
  · rintro ⟨⟨⟨h1, h2⟩, h3, h4⟩, h5⟩
    refine ⟨⟨h1, h3, h2, h4⟩, ?_⟩
    rw [← s _ _ (by omega) (by omega)]
    exact h5
  · rintro ⟨⟨h1, h3, h2, h4⟩, h5⟩
    refine ⟨⟨⟨h1, h2⟩, h3, h4⟩, ?_⟩
    rw [s _ _ (by omega) (by omega)]
    exact h5
theorem bottom_meet {n : Nat} {U D : List Nat} (l : Latt n U D) (h0 : 0 < n) {ch : List Int} (c : ChainOk n D ch) : lev D ch = lev U [] := by
  obtain ⟨h1, h2, h3⟩ := l.Bt_spec h0
  rw [h1]
  refine lev_join l.pd l.ad ⟨h2, fun b hb => ?_⟩
  constructor
  · intro h z hz
    have hr := c.range z hz
    have e : b = Bt U := l.au b (Bt U) hb h2 ((l.flip _ _).1 h) (h3 b hb)
    intro h4 h5
    rw [e]
    exact (l.flip _ _).2 (h3 _ (by omega))
  · intro h
    have := h _ (c.all (Bt U) h2)
    exact this (by omega) (by rw [l.pd.len]; omega)
theorem top_join {n : Nat} {U D : List Nat} (l : Latt n U D) (h0 : 0 < n) {ch : List Int} (c : ChainOk n D ch) : lev U ch = lev D [] := by
  obtain ⟨h1, h2, h3⟩ := l.turn.Bt_spec h0
  rw [h1]
  refine lev_join l.pu l.au ⟨h2, fun b hb => ?_⟩
  constructor
  · intro h z hz
    have hr := c.range z hz
    have e : b = Bt D := l.ad b (Bt D) hb h2 ((l.flip _ _).2 h) (h3 b hb)
    intro h4 h5
    rw [e]
    exact (l.flip _ _).1 (h3 _ (by omega))
  · intro h
    have := h _ (c.all (Bt D) h2)
    exact this (by omega) (by rw [l.pu.len]; omega)
theorem height_says {n : Nat} {U D : List Nat} (l : Latt n U D) (h0 : 0 < n) (h8 : n ≤ 8) : (rkTo U (chainL D) n).2 = heightL U D := by
  have c := chain_ok l.pd l.ad h8
  have := (rk_final l h0 h8 c).1
  rw [c.len] at this
  exact height_one this (height_is l h0 h8)

/-- only new memory, and the old one is there -/
def Bz (S : Nat) (a w : World) : Prop := Below S a w ∧ S ≤ w.heap.size
theorem Bz.alloc {S : Nat} {a w : World} (h : Bz S a w) (o : Obj) : Bz S a (w.alloc o) := ⟨h.1.alloc h.2 o, by have := h.2; simp; omega⟩
theorem Bz.drew {S : Nat} {a w : World} (h : Bz S a w) : Bz S a w.drew := ⟨h.1.drew, h.2⟩
theorem Bz.drawn {S : Nat} {a w w' : World} (h : Bz S a w) (hd : Drawn w w') : Bz S a w' := ⟨h.1.trans hd.below, by have := (hd.below (B := 0)).size; have := h.2; omega⟩
theorem Bz.trans {S : Nat} {a w w' : World} (h : Bz S a w) (hb : Below w.heap.size w w') : Bz S a w' := ⟨h.1.trans (hb.mono h.2), by have := hb.size; have := h.2; omega⟩
/-- block g holds two numbers -/
def Two (w : World) (g : Nat) (a b : Int) : Prop := w.heap[g]? = some (.cells #[.int .i64 a, .int .i64 b] 3 (0, 0))
theorem Two.new (w : World) (g : Nat) (a b : Int) (hg : g = w.heap.size) : Two (w.alloc (.cells #[.int .i64 a, .int .i64 b] 3)) g a b := by rw [hg]; exact heap_alloc_new w _
theorem Two.alloc {w : World} {g : Nat} {a b : Int} (h : Two w g a b) (o : Obj) : Two (w.alloc o) g a b := by
  have hlt : g < w.heap.size := by
    rcases Nat.lt_or_ge g w.heap.size with hlt | hge
    · exact hlt
    · unfold Two at h; rw [Array.getElem?_eq_none hge] at h; cases h
  unfold Two
  rw [Below.heap_alloc _ _ _ hlt]
  exact h
theorem Two.drew {w : World} {g : Nat} {a b : Int} (h : Two w g a b) : Two w.drew g a b := h
theorem Two.ints {w : World} {g : Nat} {a b : Int} (h : Two w g a b) : IntsIn w w.heap.size (some ⟨g, 0, none⟩) 0 [a, b] := by
  have hlt : g < w.heap.size := by
    rcases Nat.lt_or_ge g w.heap.size with hlt | hge
    · exact hlt
    · unfold Two at h; rw [Array.getElem?_eq_none hge] at h; cases h
  intro k hk
  refine ⟨g, rfl, hlt, ?_⟩
  rw [cell_of_row w g (0 + k) _ _ (0, 0) h]
  have hk2 : k < 2 := hk
  rcases Nat.lt_or_ge k 1 with h | h
  · obtain rfl : k = 0 := by omega
    rfl
  · obtain rfl : k = 1 := by omega
    rfl
theorem ints_of_in {w : World} {B : Nat} {A : Option Addr} {zs : List Int} (h : IntsIn w B A 0 zs) : Ints w A zs := fun k hk => by
  obtain ⟨b, h1, _, h2⟩ := h k hk
  exact ⟨b, h1, by simpa using h2⟩
theorem in_of_ints {w : World} {A : Option Addr} {zs : List Int} (h : Ints w A zs) : IntsIn w w.heap.size A 0 zs := fun k hk => by
  obtain ⟨b, h1, h2⟩ := h k hk
  exact ⟨b, h1, block_lt_of_cell h2, by simpa using h2⟩

end Go.Proofs.Ytogmiofmhmbhbaa
