/- The document's own memories: Store and Make: plain. -/
import Derived.Test.YtnplekfpncjnpaaHbf
import Derived.Test.YtnplekfpncjnpaaHag
set_option linter.unusedVariables false
set_option linter.unusedSimpArgs false
namespace Go.Proofs.Ytnplekfpncjnpaa
open Go.RowKit

theorem map_ws_set (H : Hp) {t : Nat} (ht : t < H.length) (ws : List Wd) (os : List Ob) : (H.set t ⟨ws, os⟩).map (·.ws) = (H.map (·.ws)).set t ws := by rw [List.map_set]
theorem map_os_set (H : Hp) {t : Nat} (ht : t < H.length) (ws : List Wd) (os : List Ob) : (H.set t ⟨ws, os⟩).map (·.os) = (H.map (·.os)).set t os := by rw [List.map_set]
theorem set_same {β : Type} {X : List β} {t : Nat} {u : β} (h : X[t]? = some u) : X.set t u = X := by
  obtain ⟨hlt, rfl⟩ := List.getElem?_eq_some_iff.1 h
  exact List.set_getElem_self hlt
theorem ws_at (H : Hp) {t : Nat} (ht : t < H.length) : (H.map (·.ws))[t]? = some (getM H t).ws := by rw [List.getElem?_map, List.getElem?_eq_getElem ht, getM_lt ht]; rfl
theorem os_at (H : Hp) {t : Nat} (ht : t < H.length) : (H.map (·.os))[t]? = some (getM H t).os := by rw [List.getElem?_map, List.getElem?_eq_getElem ht, getM_lt ht]; rfl
/-- a word is written -/
theorem ROwn.stored {w : World} {base t k : Nat} {H : Hp} {v1 v2 : Value} {X1 X2 : List Value} (h : ROwn w base H v1 v2 X1 X2) (ht : t < H.length) (hk : k < (getM H t).ws.length) (x : Wd) :
    ∃ g c g3 d3, v1 = .slice (some ⟨g, 0, none⟩) H.length c ∧ base ≤ g ∧ base ≤ g3 ∧ w.cell? ⟨g, t, none⟩ = some (.slice (some ⟨g3, 0, none⟩) (getM H t).ws.length d3) ∧ (getM H t).ws.length ≤ d3 ∧ (∃ y, w.cell? ⟨g3, k * 2, none⟩ = some (.int .i64 y)) ∧ (∃ y, w.cell? ⟨g3, k * 2 + 1, none⟩ = some (.int .i64 y)) ∧ (∀ j, w.frozen? ⟨g3, j, none⟩ = false) ∧ g3 < w.heap.size ∧
      ROwn ((w.setCell ⟨g3, k * 2, none⟩ (.int .i64 x.v)).setCell ⟨g3, k * 2 + 1, none⟩ (.int .i64 x.s)) base (H.set t ⟨(getM H t).ws.set k x, (getM H t).os⟩) v1 v2 X1 X2 := by
  obtain ⟨u, hu, hru⟩ := h.a.i t _ (ws_at H ht)
  have hrow : RowW w base (getM H t).ws u := hru
  obtain ⟨g3, d3, rfl, hd3, hb3, hl3, c0, c1, hf⟩ := hrow.at_ k hk
  have ho := h.a.o
  obtain ⟨g, c, hv⟩ : ∃ g c, v1 = .slice (some ⟨g, 0, none⟩) (H.map (·.ws)).length c := by
    rcases ho.2 with ⟨-, h2⟩ | ⟨g, cap, cur, e, _⟩
    · rw [List.length_map] at h2; omega
    · exact ⟨g, cap, e⟩
  have hcell : w.cell? ⟨g, t, none⟩ = some (.slice (some ⟨g3, 0, none⟩) (getM H t).ws.length d3) := by
    have := World.ownsRow.cells ho (g := g) (by rw [hv]; rfl) t _ hu
    rw [add_none, Nat.zero_add] at this
    exact this
  have hvo : v1.ownBlock = some g := by rw [hv]; rfl
  have hng : g ≠ g3 := fun e => h.a.apo t _ g hu (by rw [e]; rfl) hvo
  obtain ⟨W, hW⟩ : ∃ W, W = (w.setCell ⟨g3, k * 2, none⟩ (.int .i64 x.v)).setCell ⟨g3, k * 2 + 1, none⟩ (.int .i64 x.s) := ⟨_, rfl⟩
  have hset : ∀ b, b ≠ g3 → W.heap[b]? = w.heap[b]? := fun b hb => by rw [hW]; exact (Below.heap_setCell _ _ _ b hb).trans (Below.heap_setCell _ _ _ b hb)
  have ht4 := h.a.turn (w' := W) (u' := .slice (some ⟨g3, 0, none⟩) (getM H t).ws.length d3) (r' := (getM H t).ws.set k x) hu (fun b _ h1 _ => hset b (fun e => h1 (by rw [e]; rfl))) (by
      rw [set_same hu]
      exact ownsRow_keep ho (fun b hb => by
        rw [hvo] at hb; cases hb
        exact hset _ hng)) (by
      rw [hW, List.length_set, wflat_set _ _ _ hk]
      exact ownsRow_set (ownsRow_set hru _ _) _ _) (.inl rfl)
  refine ⟨g, c, g3, d3, by rw [hv, List.length_map], (h.a.lt (.inl hvo)).1, hb3, hcell, hd3, ⟨_, c0⟩, ⟨_, c1⟩, hf, hl3, ?_⟩
  rw [← hW]
  rw [set_same hu] at ht4
  refine ⟨?_, ?_, h.ap⟩
  · unfold OwnWs
    rw [map_ws_set H ht]
    exact ht4.1
  · unfold OwnOs
    rw [map_os_set H ht, set_same (os_at H ht)]
    exact h.b.keep (fun b hb => hset b (fun e => h.ap g3 (.inr ⟨t, _, hu, rfl⟩) (e ▸ hb)))
/-- one more at the end of row t -/
theorem CSt.push1 {W wo : World} {z base m t : Nat} {L1 : List (List Wd)} {L2 : List (List Ob)} {v1 v2 : Value} {X1 X2 : List Value} {r : List Wd} (h : CSt W wo z base L1 L2 v1 v2 X1 X2) (hr : L1[t]? = some r) (hm : r.length = m) (hm2 : m ≤ 1000) (x : Wd) :
    ∃ g B d B' d' w2, (∃ c, v1 = .slice (some ⟨g, 0, none⟩) L1.length c) ∧ wo.cell? ⟨g, t, none⟩ = some (.slice B m d) ∧ z < g ∧ g < wo.heap.size ∧
      (Builtin.append_ #[48, 48] 48 #[.slice B m d, .slice (some ⟨wo.heap.size, 0, none⟩) 1 1]).run Try.prog (wo.drew.alloc (.cells (wcells x).toArray 40)) = .ok (.slice B' (m + 1) d') w2 ∧
      w2.cell? ⟨g, t, none⟩ = some (.slice B m d) ∧ (∀ j, w2.frozen? ⟨g, j, none⟩ = false) ∧ Below z W w2 ∧ wo.heap.size < w2.heap.size ∧ w2.heap[z]? = some (.cells #[v1, v2] 29 (0, 0)) ∧
      CSt W (w2.setCell ⟨g, t, none⟩ (.slice B' (m + 1) d')) z base (L1.set t (r ++ [x])) L2 v1 v2 (X1.set t (.slice B' (m + 1) d')) X2 := by
  subst hm
  obtain ⟨u, hu, hru⟩ := h.a.i t r hr
  obtain ⟨B, d, rfl⟩ := row_form hru
  have hlt : t < L1.length := by obtain ⟨hlt, -⟩ := List.getElem?_eq_some_iff.1 hr; exact hlt
  have ho := h.a.o
  obtain ⟨g, c, hv⟩ : ∃ g c, v1 = .slice (some ⟨g, 0, none⟩) L1.length c := by
    rcases ho.2 with ⟨-, h2⟩ | ⟨g, cap, cur, e, _⟩
    · omega
    · exact ⟨g, cap, e⟩
  subst hv
  have hgm : Mine (.slice (some ⟨g, 0, none⟩) L1.length c) X1 g := .inl rfl
  have hgl := h.a.lt hgm
  have hzb := h.zb
  have hbs := h.bs
  have hcell : wo.cell? ⟨g, t, none⟩ = some (.slice B r.length d) := by
    have := World.ownsRow.cells ho (g := g) rfl t _ hu
    rw [add_none, Nat.zero_add] at this
    exact this
  obtain ⟨i, hi, hz, hs, hy⟩ := info_parts infoW
  obtain ⟨w1, hw1⟩ : ∃ w1 : World, w1 = wo.drew.alloc (.cells (wcells x).toArray 40) := ⟨_, rfl⟩
  have hLA : Below wo.heap.size wo w1 := by rw [hw1]; exact ((Below.refl wo.heap.size wo).drew).alloc (Nat.le_refl _) _
  have hs1 : w1.heap.size = wo.heap.size + 1 := by rw [hw1]; simp
  have hnew : w1.heap[wo.heap.size]? = some (.cells (wcells x).toArray 40 (0, 0)) := by rw [hw1]; exact heap_alloc_new wo.drew _
  have hru1 := ownsRow_keep (w' := w1) hru (fun b hb => hLA.block b (World.ownsRow.lt hru b hb).2)
  obtain ⟨u', w2, hr1, o2, g2, -, n2⟩ := run_append_own_at (P := Try.prog) (w := w1) base 48 48 40 i (.agg #[.int .i64 0, .int .i64 0]) 2 16 Try.underlying48 hi hz hs hy rfl (by decide) (.slice B r.length d) r.length (r.map wcells).flatten hru1 ⟨wo.heap.size, 0, none⟩ 1 1 (wcells x) rfl (fun j y hy => by
    rw [add_none, Nat.zero_add, cell_of_row _ _ j _ _ (0, 0) hnew]
    simpa using hy) (wone x) (by unfold maxLen; omega) (by omega) (by omega)
  obtain ⟨B', d', rfl⟩ := row_form o2
  have hub : ∀ b, (Value.slice B r.length d).ownBlock = some b → base ≤ b ∧ b < wo.heap.size := fun b e => World.ownsRow.lt hru b e
  have hgu : (Value.slice B r.length d).ownBlock ≠ some g := fun e => h.a.apo t _ g hu e rfl
  have hblk : ∀ b, b < wo.heap.size → (Value.slice B r.length d).ownBlock ≠ some b → w2.heap[b]? = wo.heap[b]? := fun b hb hne => (g2.block b (by omega) (fun e => hne e.symm)).trans (hLA.block b hb)
  have hs2 : wo.heap.size < w2.heap.size := by have := g2.size; omega
  have hbel : Below z W w2 := h.bel.trans ⟨g2.os.trans hLA.os, g2.tape.trans hLA.tape, g2.output.trans hLA.output, by omega, fun b hb => hblk b (by omega) (fun e => by have := (hub b e).1; omega)⟩
  have hcell2 : w2.cell? ⟨g, t, none⟩ = some (.slice B r.length d) := (World.cell?_of_block (hblk g hgl.2 hgu)).trans hcell
  have hfro : ∀ j, w2.frozen? ⟨g, j, none⟩ = false := fun j => by
    rcases ho.2 with ⟨e, -⟩ | ⟨g', cap, cur, e, _, hg, _⟩
    · cases e
    · cases e
      exact frozen_of_row w2 _ j _ _ ((hblk g hgl.2 hgu).trans hg)
  obtain ⟨w3, hw3⟩ : ∃ w3, w3 = w2.setCell ⟨g, t, none⟩ (.slice B' (r.length + 1) d') := ⟨_, rfl⟩
  have hset : ∀ b, b ≠ g → w3.heap[b]? = w2.heap[b]? := fun b hb => by rw [hw3]; exact Below.heap_setCell _ _ _ b hb
  have hs3 : w3.heap.size = w2.heap.size := by rw [hw3]; simp
  have hnb : ∀ b, (Value.slice B' (r.length + 1) d').ownBlock = some b → b ≠ g := fun b e => by
    rcases n2 with n2 | n2
    · rw [n2] at e; exact fun e2 => hgu (e2 ▸ e)
    · rw [n2] at e; cases e; omega
  have ht4 := h.a.turn (w' := w3) (u' := .slice B' (r.length + 1) d') (r' := r ++ [x]) hu (fun b hb h1 h2 => (hset b (fun e => h2 (by rw [e]; rfl))).trans (hblk b (h.a.lt hb).2 h1)) (by
      rw [hw3]
      exact ownsRow_set (ownsRow_keep ho (fun b hb => by
        have : g = b := by simpa [Value.ownBlock] using hb
        subst this
        exact hblk _ hgl.2 hgu)) t _) (by
      have := ownsRow_keep (w' := w3) o2 (fun b hb => hset b (hnb b hb))
      rw [List.length_append, List.map_append, List.flatten_append]
      simpa using this) (n2.imp id (fun e => ⟨_, e, by omega⟩))
  have hm := ht4.2
  have hoth := h.b.keep (w' := w3) (fun b hm2 => (hset b (fun e => by subst e; exact absurd hm2 (fun hm2 => by first | exact h.ap _ hgm hm2 | exact h.ap _ hm2 hgm))).trans (hblk b (h.b.lt hm2).2 (fun e => h.ap b (.inr ⟨t, _, hu, e⟩) hm2)))
  refine ⟨g, B, d, B', d', w2, ⟨c, rfl⟩, hcell, by omega, hgl.2, hw1 ▸ hr1, hcell2, hfro, hbel, hs2, (hblk z (by omega) (fun e => by have := (hub z e).1; omega)).trans h.row, ?_⟩
  rw [← hw3]
  refine ⟨hzb, ?_, ht4.1, hoth, fun b h1 h2 => ?_, hbel.trans ?_, by omega, fun b hb hne => (hset b (by omega)).trans ((hblk b (by omega) (fun e => by have := (hub b e).1; omega)).trans (h.oth b hb hne))⟩
  · exact (hset z (by omega)).trans ((hblk z (by omega) (fun e => by have := (hub z e).1; omega)).trans h.row)
  · rcases hm b h1 with h3 | h3
    · exact h.ap b h3 h2
    · have := (h.b.lt h2).2; omega
  · rw [hw3]; exact ⟨rfl, rfl, rfl, by simp, fun b hb => Below.heap_setCell _ _ _ b (by show b ≠ g; omega)⟩
/-- one more at the end of row t -/
theorem CSt.push2 {W wo : World} {z base m t : Nat} {L1 : List (List Wd)} {L2 : List (List Ob)} {v1 v2 : Value} {X1 X2 : List Value} {r : List Ob} (h : CSt W wo z base L1 L2 v1 v2 X1 X2) (hr : L2[t]? = some r) (hm : r.length = m) (hm2 : m ≤ 1000) (x : Ob) :
    ∃ g B d B' d' w2, (∃ c, v2 = .slice (some ⟨g, 0, none⟩) L2.length c) ∧ wo.cell? ⟨g, t, none⟩ = some (.slice B m d) ∧ z < g ∧ g < wo.heap.size ∧
      (Builtin.append_ #[49, 49] 49 #[.slice B m d, .slice (some ⟨wo.heap.size, 0, none⟩) 1 1]).run Try.prog (wo.drew.alloc (.cells (ocells x).toArray 45)) = .ok (.slice B' (m + 1) d') w2 ∧
      w2.cell? ⟨g, t, none⟩ = some (.slice B m d) ∧ (∀ j, w2.frozen? ⟨g, j, none⟩ = false) ∧ Below z W w2 ∧ wo.heap.size < w2.heap.size ∧ w2.heap[z]? = some (.cells #[v1, v2] 29 (0, 0)) ∧
      CSt W (w2.setCell ⟨g, t, none⟩ (.slice B' (m + 1) d')) z base L1 (L2.set t (r ++ [x])) v1 v2 X1 (X2.set t (.slice B' (m + 1) d')) := by
  subst hm
  obtain ⟨u, hu, hru⟩ := h.b.i t r hr
  obtain ⟨B, d, rfl⟩ := row_form hru
  have hlt : t < L2.length := by obtain ⟨hlt, -⟩ := List.getElem?_eq_some_iff.1 hr; exact hlt
  have ho := h.b.o
  obtain ⟨g, c, hv⟩ : ∃ g c, v2 = .slice (some ⟨g, 0, none⟩) L2.length c := by
    rcases ho.2 with ⟨-, h2⟩ | ⟨g, cap, cur, e, _⟩
    · omega
    · exact ⟨g, cap, e⟩
  subst hv
  have hgm : Mine (.slice (some ⟨g, 0, none⟩) L2.length c) X2 g := .inl rfl
  have hgl := h.b.lt hgm
  have hzb := h.zb
  have hbs := h.bs
  have hcell : wo.cell? ⟨g, t, none⟩ = some (.slice B r.length d) := by
    have := World.ownsRow.cells ho (g := g) rfl t _ hu
    rw [add_none, Nat.zero_add] at this
    exact this
  obtain ⟨i, hi, hz, hs, hy⟩ := info_parts infoO
  obtain ⟨w1, hw1⟩ : ∃ w1 : World, w1 = wo.drew.alloc (.cells (ocells x).toArray 45) := ⟨_, rfl⟩
  have hLA : Below wo.heap.size wo w1 := by rw [hw1]; exact ((Below.refl wo.heap.size wo).drew).alloc (Nat.le_refl _) _
  have hs1 : w1.heap.size = wo.heap.size + 1 := by rw [hw1]; simp
  have hnew : w1.heap[wo.heap.size]? = some (.cells (ocells x).toArray 45 (0, 0)) := by rw [hw1]; exact heap_alloc_new wo.drew _
  have hru1 := ownsRow_keep (w' := w1) hru (fun b hb => hLA.block b (World.ownsRow.lt hru b hb).2)
  obtain ⟨u', w2, hr1, o2, g2, -, n2⟩ := run_append_own_at (P := Try.prog) (w := w1) base 49 49 45 i (.agg #[.int .i64 0, .int .i64 0, .int .i64 0, .int .i64 0]) 4 32 Try.underlying49 hi hz hs hy rfl (by decide) (.slice B r.length d) r.length (r.map ocells).flatten hru1 ⟨wo.heap.size, 0, none⟩ 1 1 (ocells x) rfl (fun j y hy => by
    rw [add_none, Nat.zero_add, cell_of_row _ _ j _ _ (0, 0) hnew]
    simpa using hy) (oone x) (by unfold maxLen; omega) (by omega) (by omega)
  obtain ⟨B', d', rfl⟩ := row_form o2
  have hub : ∀ b, (Value.slice B r.length d).ownBlock = some b → base ≤ b ∧ b < wo.heap.size := fun b e => World.ownsRow.lt hru b e
  have hgu : (Value.slice B r.length d).ownBlock ≠ some g := fun e => h.b.apo t _ g hu e rfl
  have hblk : ∀ b, b < wo.heap.size → (Value.slice B r.length d).ownBlock ≠ some b → w2.heap[b]? = wo.heap[b]? := fun b hb hne => (g2.block b (by omega) (fun e => hne e.symm)).trans (hLA.block b hb)
  have hs2 : wo.heap.size < w2.heap.size := by have := g2.size; omega
  have hbel : Below z W w2 := h.bel.trans ⟨g2.os.trans hLA.os, g2.tape.trans hLA.tape, g2.output.trans hLA.output, by omega, fun b hb => hblk b (by omega) (fun e => by have := (hub b e).1; omega)⟩
  have hcell2 : w2.cell? ⟨g, t, none⟩ = some (.slice B r.length d) := (World.cell?_of_block (hblk g hgl.2 hgu)).trans hcell
  have hfro : ∀ j, w2.frozen? ⟨g, j, none⟩ = false := fun j => by
    rcases ho.2 with ⟨e, -⟩ | ⟨g', cap, cur, e, _, hg, _⟩
    · cases e
    · cases e
      exact frozen_of_row w2 _ j _ _ ((hblk g hgl.2 hgu).trans hg)
  obtain ⟨w3, hw3⟩ : ∃ w3, w3 = w2.setCell ⟨g, t, none⟩ (.slice B' (r.length + 1) d') := ⟨_, rfl⟩
  have hset : ∀ b, b ≠ g → w3.heap[b]? = w2.heap[b]? := fun b hb => by rw [hw3]; exact Below.heap_setCell _ _ _ b hb
  have hs3 : w3.heap.size = w2.heap.size := by rw [hw3]; simp
  have hnb : ∀ b, (Value.slice B' (r.length + 1) d').ownBlock = some b → b ≠ g := fun b e => by
    rcases n2 with n2 | n2
    · rw [n2] at e; exact fun e2 => hgu (e2 ▸ e)
    · rw [n2] at e; cases e; omega
  have ht4 := h.b.turn (w' := w3) (u' := .slice B' (r.length + 1) d') (r' := r ++ [x]) hu (fun b hb h1 h2 => (hset b (fun e => h2 (by rw [e]; rfl))).trans (hblk b (h.b.lt hb).2 h1)) (by
      rw [hw3]
      exact ownsRow_set (ownsRow_keep ho (fun b hb => by
        have : g = b := by simpa [Value.ownBlock] using hb
        subst this
        exact hblk _ hgl.2 hgu)) t _) (by
      have := ownsRow_keep (w' := w3) o2 (fun b hb => hset b (hnb b hb))
      rw [List.length_append, List.map_append, List.flatten_append]
      simpa using this) (n2.imp id (fun e => ⟨_, e, by omega⟩))
  have hm := ht4.2
  have hoth := h.a.keep (w' := w3) (fun b hm2 => (hset b (fun e => by subst e; exact absurd hm2 (fun hm2 => by first | exact h.ap _ hgm hm2 | exact h.ap _ hm2 hgm))).trans (hblk b (h.a.lt hm2).2 (fun e => h.ap b hm2 (.inr ⟨t, _, hu, e⟩))))
  refine ⟨g, B, d, B', d', w2, ⟨c, rfl⟩, hcell, by omega, hgl.2, hw1 ▸ hr1, hcell2, hfro, hbel, hs2, (hblk z (by omega) (fun e => by have := (hub z e).1; omega)).trans h.row, ?_⟩
  rw [← hw3]
  refine ⟨hzb, ?_, hoth, ht4.1, fun b h1 h2 => ?_, hbel.trans ?_, by omega, fun b hb hne => (hset b (by omega)).trans ((hblk b (by omega) (fun e => by have := (hub b e).1; omega)).trans (h.oth b hb hne))⟩
  · exact (hset z (by omega)).trans ((hblk z (by omega) (fun e => by have := (hub z e).1; omega)).trans h.row)
  · rcases hm b h2 with h3 | h3
    · exact h.ap b h1 h3
    · have := (h.a.lt h1).2; omega
  · rw [hw3]; exact ⟨rfl, rfl, rfl, by simp, fun b hb => Below.heap_setCell _ _ _ b (by show b ≠ g; omega)⟩

end Go.Proofs.Ytnplekfpncjnpaa
