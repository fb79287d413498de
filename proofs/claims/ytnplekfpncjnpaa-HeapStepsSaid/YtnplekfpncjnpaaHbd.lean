/- The document's own memories: New; a row of rows of a call's own. -/
import Derived.Test.YtnplekfpncjnpaaHbb
import Derived.Deep.Cut
set_option linter.unusedVariables false
set_option linter.unusedSimpArgs false
namespace Go.Proofs.Ytnplekfpncjnpaa
open Go.RowKit

theorem info_ws : (Try.prog.info? 48).map (fun i => (i.zero, i.size, i.bytes)) = some (some (.slice none 0 0), 1, 24) := by kernel_rfl
theorem info_os : (Try.prog.info? 49).map (fun i => (i.zero, i.size, i.bytes)) = some (some (.slice none 0 0), 1, 24) := by kernel_rfl
/-- a list of n nil rows, in memory of the call's own -/
def Nils (e : TypeId) (w : World) (base n : Nat) (v : Value) : Prop := w.ownsRow base e 1 v n (List.replicate n nilV)
theorem Nils.form {e : TypeId} {w : World} {base n : Nat} {v : Value} (h : Nils e w base n v) : ∃ A c, v = .slice A n c := by
  rcases h.2 with ⟨rfl, h2⟩ | ⟨g, cap, cur, rfl, _⟩
  · exact ⟨none, 0, by rw [h2]⟩
  · exact ⟨_, cap, rfl⟩
theorem wpList_append_nil {ops : Array Oper} {rest : List Oper} {o : Oper} {a : Act} {w : World} {Q : Exit → Act → World → Prop} (hgd : o.guard = none) (s x : Operand) (t e : TypeId) (ho : o.op = .call { callee := .builtin .append, args := #[s, x], argTypes := #[t, t] })
    (ht : Try.prog.underlying t = some (.slice e)) (hi : (Try.prog.info? e).map (fun i => (i.zero, i.size, i.bytes)) = some (some nilV, 1, 24)) (base n : Nat) (v : Value) (hs : a.eval s = v) (hown : Nils e w base n v) (hn : n ≤ 1000) (g c : Nat) (hx : a.eval x = .slice (some ⟨g, 0, none⟩) 1 c) (hg : w.cell? ⟨g, 0, none⟩ = some nilV) (hbase : base ≤ w.heap.size)
    (h : ∀ v' w', Nils e w' base (n + 1) v' → w.grownBy w' v.ownBlock → (v'.ownBlock = v.ownBlock ∨ v'.ownBlock = some w.heap.size) → wpList Try.prog ops Q rest (a.put o.dst v') w') : wpList Try.prog ops Q (o :: rest) a w := by
  obtain ⟨i, hi1, hz, hs1, hy⟩ := info_parts hi
  refine wpList_append_own_at w hgd s x t ho base e i nilV 1 24 ht hi1 hz hs1 hy rfl (by decide) v n (List.replicate n nilV) hs hown ⟨g, 0, none⟩ 1 c [nilV] hx rfl (fun j u hu => ?_) (by simp; rfl) (by unfold maxLen; omega) (by omega) hbase (fun v' w' h1 h2 _ h4 => h v' w' ?_ h2 h4)
  · match j, hu with
    | 0, hu => rw [add_none]; simp at hu; rw [← hu]; exact hg
    | j + 1, hu => simp at hu
  · unfold Nils
    rw [List.replicate_succ']
    exact h1
/-- nil rows say: nothing -/
theorem Nils.lies_w {w : World} {base n : Nat} {v : Value} (h : Nils 48 w base n v) (hn : n ≤ 1000) : Lies KWs w (fun b => base ≤ b ∧ b < w.heap.size) (List.replicate n []) v := by
  rcases h.2 with ⟨rfl, h2⟩ | ⟨g, cap, cur, rfl, hbg, hg, hc1, hc2, _⟩
  · subst h2; exact Lies.nil _ _
  · refine ⟨_, cap, fun _ => [nilV], by rw [List.length_replicate], by rw [List.length_replicate]; exact hc1, by unfold maxLen at hc2; omega, by rw [List.length_replicate]; omega, fun k hk => ?_⟩
    rw [List.length_replicate] at hk
    refine ⟨g, 0, rfl, ⟨hbg, heap_lt hg⟩, ⟨nilV, rfl, by rw [List.getElem_replicate]; exact Lies.nil _ _⟩, fun j hj => ?_⟩
    have hj0 : j = 0 := by have : KWs.sz = 1 := rfl; omega
    subst hj0
    have := World.ownsRow.cells h (g := g) rfl k nilV (by rw [List.getElem?_replicate, if_pos hk])
    rw [add_none, Nat.zero_add] at this
    rw [show 0 + k * KWs.sz + 0 = k from by show 0 + k * 1 + 0 = k; omega]
    exact this
theorem Nils.lies_o {w : World} {base n : Nat} {v : Value} (h : Nils 49 w base n v) (hn : n ≤ 1000) : Lies KOs w (fun b => base ≤ b ∧ b < w.heap.size) (List.replicate n []) v := by
  rcases h.2 with ⟨rfl, h2⟩ | ⟨g, cap, cur, rfl, hbg, hg, hc1, hc2, _⟩
  · subst h2; exact Lies.nil _ _
  · refine ⟨_, cap, fun _ => [nilV], by rw [List.length_replicate], by rw [List.length_replicate]; exact hc1, by unfold maxLen at hc2; omega, by rw [List.length_replicate]; omega, fun k hk => ?_⟩
    rw [List.length_replicate] at hk
    refine ⟨g, 0, rfl, ⟨hbg, heap_lt hg⟩, ⟨nilV, rfl, by rw [List.getElem_replicate]; exact Lies.nil _ _⟩, fun j hj => ?_⟩
    have hj0 : j = 0 := by have : KOs.sz = 1 := rfl; omega
    subst hj0
    have := World.ownsRow.cells h (g := g) rfl k nilV (by rw [List.getElem?_replicate, if_pos hk])
    rw [add_none, Nat.zero_add] at this
    rw [show 0 + k * KOs.sz + 0 = k from by show 0 + k * 1 + 0 = k; omega]
    exact this

/-- two lists of nil rows under way, in the cells of block z -/
structure NSt (w wr : World) (z base j1 j2 : Nat) (v1 v2 : Value) : Prop where
  zb : z < base
  wz : w.heap.size < z
  r0 : wr.heap[w.heap.size]? = some (.cells #[nilV, nilV] 29 (0, 0))
  row : wr.heap[z]? = some (.cells #[v1, v2] 29 (0, 0))
  n1 : Nils 48 wr base j1 v1
  n2 : Nils 49 wr base j2 v2
  ap : ∀ b, v1.ownBlock = some b → v2.ownBlock ≠ some b
  bel : Below w.heap.size w wr
  bs : base ≤ wr.heap.size
theorem NSt.put1 {w wr w5 W : World} {z base j1 j2 : Nat} {v1 v2 v1' : Value} (h : NSt w wr z base j1 j2 v1 v2) {o : Obj} (hn : Nils 48 w5 base (j1 + 1) v1') (hg : (wr.alloc o).grownBy w5 v1.ownBlock) (ho : v1'.ownBlock = v1.ownBlock ∨ v1'.ownBlock = some (wr.alloc o).heap.size)
    (hW : w5.setCell ⟨z, 0, none⟩ v1' = W) : w5.heap[z]? = some (.cells #[v1, v2] 29 (0, 0)) ∧ NSt w W z base (j1 + 1) j2 v1' v2 := by
  have hs : (wr.alloc o).heap.size = wr.heap.size + 1 := by simp
  have hz := heap_lt h.row
  have hblk : ∀ b, b < wr.heap.size → v1.ownBlock ≠ some b → w5.heap[b]? = wr.heap[b]? := fun b hb hne => (hg.block b (by omega) (fun e => hne e.symm)).trans (heap_alloc_old wr o hb)
  have h5 := (hblk z hz (fun e => by have := (World.ownsRow.lt h.n1 z e).1; have := h.zb; omega)).trans h.row
  have hoth : ∀ b, b ≠ z → W.heap[b]? = w5.heap[b]? := fun b hb => by subst hW; exact Below.heap_setCell _ _ _ b hb
  have hWs : W.heap.size = w5.heap.size := by subst hW; simp
  have hr0 : W.heap[w.heap.size]? = some (.cells #[nilV, nilV] 29 (0, 0)) := ((hoth _ (by have := h.wz; omega)).trans (hblk _ (by have := h.wz; omega) (fun e => by have := (World.ownsRow.lt h.n1 _ e).1; have := h.zb; have := h.wz; omega))).trans h.r0
  refine ⟨h5, ⟨h.zb, h.wz, hr0, ?_, ?_, ?_, fun b hb => ?_, ?_, ?_⟩⟩
  · subst hW; rw [setCell_eq_setRow w5 z 0 _ _ _ _ h5, setRow_heap w5 z _ _ _ _ h5]; rfl
  · exact ownsRow_keep hn (fun b hb => hoth b (by have := (World.ownsRow.lt hn b hb).1; have := h.zb; omega))
  · exact ownsRow_keep h.n2 (fun b hb => (hoth b (by have := (World.ownsRow.lt h.n2 b hb).1; have := h.zb; omega)).trans (hblk b (World.ownsRow.lt h.n2 b hb).2 (fun e => h.ap b e hb)))
  · rcases ho with ho | ho
    · exact h.ap b (ho ▸ hb)
    · intro e
      rw [ho] at hb
      cases hb
      have := (World.ownsRow.lt h.n2 _ e).2
      omega
  · have e1 : W.os = w5.os ∧ W.tape = w5.tape ∧ W.output = w5.output := by subst hW; exact ⟨rfl, rfl, rfl⟩
    have hA := (Below.refl wr.heap.size wr).alloc (Nat.le_refl _) o
    have h1 := hg.os.trans hA.os
    have h2 := hg.tape.trans hA.tape
    have h3 := hg.output.trans hA.output
    have h6 := h.bel
    have h7 := hg.size
    have h8 := h.wz
    have h9 := h.zb
    refine ⟨e1.1.trans (h1.trans h6.os), e1.2.1.trans (h2.trans h6.tape), e1.2.2.trans (h3.trans h6.output), by have := h6.size; omega, fun b hb => ?_⟩
    exact ((hoth b (by omega)).trans (hblk b (by have := h6.size; omega) (fun e => by have := (World.ownsRow.lt h.n1 b e).1; omega))).trans (h6.block b hb)
  · have := hg.size; have := h.bs; omega
theorem NSt.put2 {w wr w5 W : World} {z base j1 j2 : Nat} {v1 v2 v2' : Value} (h : NSt w wr z base j1 j2 v1 v2) {o : Obj} (hn : Nils 49 w5 base (j2 + 1) v2') (hg : (wr.alloc o).grownBy w5 v2.ownBlock) (ho : v2'.ownBlock = v2.ownBlock ∨ v2'.ownBlock = some (wr.alloc o).heap.size)
    (hW : w5.setCell ⟨z, 1, none⟩ v2' = W) : w5.heap[z]? = some (.cells #[v1, v2] 29 (0, 0)) ∧ NSt w W z base j1 (j2 + 1) v1 v2' := by
  have hs : (wr.alloc o).heap.size = wr.heap.size + 1 := by simp
  have hz := heap_lt h.row
  have hblk : ∀ b, b < wr.heap.size → v2.ownBlock ≠ some b → w5.heap[b]? = wr.heap[b]? := fun b hb hne => (hg.block b (by omega) (fun e => hne e.symm)).trans (heap_alloc_old wr o hb)
  have h5 := (hblk z hz (fun e => by have := (World.ownsRow.lt h.n2 z e).1; have := h.zb; omega)).trans h.row
  have hoth : ∀ b, b ≠ z → W.heap[b]? = w5.heap[b]? := fun b hb => by subst hW; exact Below.heap_setCell _ _ _ b hb
  have hWs : W.heap.size = w5.heap.size := by subst hW; simp
  have hr0 : W.heap[w.heap.size]? = some (.cells #[nilV, nilV] 29 (0, 0)) := ((hoth _ (by have := h.wz; omega)).trans (hblk _ (by have := h.wz; omega) (fun e => by have := (World.ownsRow.lt h.n2 _ e).1; have := h.zb; have := h.wz; omega))).trans h.r0
  refine ⟨h5, ⟨h.zb, h.wz, hr0, ?_, ?_, ?_, fun b hb hb2 => ?_, ?_, ?_⟩⟩
  · subst hW; rw [setCell_eq_setRow w5 z 1 _ _ _ _ h5, setRow_heap w5 z _ _ _ _ h5]; rfl
  · exact ownsRow_keep h.n1 (fun b hb => (hoth b (by have := (World.ownsRow.lt h.n1 b hb).1; have := h.zb; omega)).trans (hblk b (World.ownsRow.lt h.n1 b hb).2 (fun e => h.ap b hb e)))
  · exact ownsRow_keep hn (fun b hb => hoth b (by have := (World.ownsRow.lt hn b hb).1; have := h.zb; omega))
  · rcases ho with ho | ho
    · exact h.ap b hb (ho ▸ hb2)
    · rw [ho] at hb2
      cases hb2
      have := (World.ownsRow.lt h.n1 _ hb).2
      omega
  · have e1 : W.os = w5.os ∧ W.tape = w5.tape ∧ W.output = w5.output := by subst hW; exact ⟨rfl, rfl, rfl⟩
    have hA := (Below.refl wr.heap.size wr).alloc (Nat.le_refl _) o
    have h1 := hg.os.trans hA.os
    have h2 := hg.tape.trans hA.tape
    have h3 := hg.output.trans hA.output
    have h6 := h.bel
    have h7 := hg.size
    have h8 := h.wz
    have h9 := h.zb
    refine ⟨e1.1.trans (h1.trans h6.os), e1.2.1.trans (h2.trans h6.tape), e1.2.2.trans (h3.trans h6.output), by have := h6.size; omega, fun b hb => ?_⟩
    exact ((hoth b (by omega)).trans (hblk b (by have := h6.size; omega) (fun e => by have := (World.ownsRow.lt h.n2 b e).1; omega))).trans (h6.block b hb)
  · have := hg.size; have := h.bs; omega

/-- the document's New: a pair of lists of its own -/
def RNew (w : World) (n : Int) (e : Ending) (w' : World) : Prop := ∃ u1 u2, e = .returned (.agg #[u1, u2]) ∧ RefAt w' (fun b => w.heap.size ≤ b ∧ b < w'.heap.size) u1 u2 (newM n) ∧ Below w.heap.size w w'
set_option maxRecDepth 100000 in
set_option maxHeartbeats 2000000 in
theorem rnew_any (w : World) (n : Int) (hn : In64 n) : Calls Try.prog 9 #[.int .i64 n] w (RNew w n) := by
  unfold In64 at hn
  obtain ⟨W, hW⟩ : ∃ W : World, W = (w.alloc (.cells #[nilV, nilV] 29)).alloc (.cells #[nilV, nilV] 29) := ⟨_, rfl⟩
  have hs : W.heap.size = w.heap.size + 2 := by rw [hW]; simp
  have hb : Below w.heap.size w W := by rw [hW]; exact ((Below.refl _ w).alloc (Nat.le_refl _) _).alloc (by simp) _
  have r1 : W.heap[w.heap.size + 1]? = some (.cells #[nilV, nilV] 29 (0, 0)) := by rw [hW]; exact two_new w _ _ _
  have r0 : W.heap[w.heap.size]? = some (.cells #[nilV, nilV] 29 (0, 0)) := by rw [hW, heap_alloc_old _ _ (by simp), heap_alloc_new]
  have HST : Hid (NSt w W (w.heap.size + 1) (w.heap.size + 2) 0 0 nilV nilV) := Lib.hid ⟨by omega, by omega, r0, r1, World.ownsRow_nil _ _ _ _, World.ownsRow_nil _ _ _ _, (fun b hb => by cases hb), hb, by omega⟩
  have HW := Lib.hid hW
  unfold nilV at HW
  obtain ⟨N, hN⟩ : ∃ N : Nat, N = min n.toNat 4 := ⟨_, rfl⟩
  have HNM : Hid (newM n = List.replicate N ⟨[], []⟩) := Lib.hid (by rw [hN]; rfl)
  have hN4 : N ≤ 4 := by omega
  have hlo : ∀ j : Nat, j < N → (j : Int) < n := fun j hj => by omega
  have hhi : ¬ ((N : Int) < n) ∨ ((N : Int) < n ∧ N = 4) := by omega
  obtain ⟨z, hz⟩ : ∃ z, z = w.heap.size + 1 := ⟨_, rfl⟩
  obtain ⟨base, hbase⟩ : ∃ z, z = w.heap.size + 2 := ⟨_, rfl⟩
  rw [← hz, ← hbase] at HST
  have hzb : w.heap.size < z := by omega
  have hzz : z < base := by omega
  clear hW hs hb r1 r0 hN
  go_enter Try.func9, Try.ntmps9
  go_wp2
  rw [← HW.out, ← hz]
  clear HW hz
  go_loopw [4] (fun x wr => ∃ (j : Nat) (v1 v2 : Value), j ≤ N ∧ x = .int .i64 (j : Nat) ∧ Hid (NSt w wr z base j j v1 v2)) (fun x _ => N - (intOf x).toNat)
  case atStart => exact ⟨0, _, _, Nat.zero_le _, rfl, HST⟩
  case round =>
    obtain ⟨wo, rfl⟩ : ∃ wo : World, wo = wr := ⟨_, rfl⟩
    obtain ⟨j, v1, v2, hj, rfl, HN⟩ := hrel
    obtain ⟨A1, c1, rfl⟩ := HN.out.n1.form
    obtain ⟨A2, c2, rfl⟩ := HN.out.n2.form
    have k0 := cell_of_row wo z 0 _ _ (0, 0) HN.out.row
    have k1 := cell_of_row wo z 1 _ _ (0, 0) HN.out.row
    simp at k0 k1
    have hzl : z < wo.heap.size := heap_lt HN.out.row
    by_cases hlt : j < N
    · have hjn := hlo j hlt
      have hj4 : (j : Int) < 4 := by omega
      have HOWN : Hid (Nils 48 (wo.alloc (.cells #[.slice none 0 0] 48)) base j (.slice A1 j c1)) := Lib.hid (ownsRow_keep HN.out.n1 (fun b hb => heap_alloc_old wo _ (World.ownsRow.lt HN.out.n1 b hb).2))
      have HC := Lib.hid (show (wo.alloc (.cells #[.slice none 0 0] 48)).cell? ⟨wo.heap.size, 0, none⟩ = some nilV by rw [cell_of_row _ _ 0 _ _ (0, 0) (heap_alloc_new wo _)]; rfl)
      go_upto_region 6 with (at_builtin; refine wpList_append_nil rfl _ _ 26 48 rfl Try.underlying26 info_ws base j (.slice A1 j c1) rfl HOWN.out (by omega) wo.heap.size 1 rfl HC.out (by have := HN.out.bs; simp; omega) ?_; intro v1' w5 hn5 hg5 ho5; obtain ⟨B1, d1, rfl⟩ := hn5.form; have hr5 := (HN.out.put1 hn5 hg5 ho5 rfl).1; have q0 := cell_of_row w5 z 0 _ _ (0, 0) hr5; have q1 := cell_of_row w5 z 1 _ _ (0, 0) hr5; simp at q0 q1; have f0 := fun j => frozen_of_row w5 z j _ _ hr5; have HPUT := Lib.hid (fun W hW => (HN.out.put1 (W := W) hn5 hg5 ho5 hW).2); clear hn5 hg5 ho5 hr5)
      generalize hV : w5.setCell ⟨z, 0, none⟩ (.slice B1 (j + 1) d1) = V
      have HV := Lib.hid (HPUT.out V hV)
      have y0 := cell_of_row V z 0 _ _ (0, 0) HV.out.row
      have y1 := cell_of_row V z 1 _ _ (0, 0) HV.out.row
      simp at y0 y1
      have hzV : z < V.heap.size := heap_lt HV.out.row
      have HOW2 : Hid (Nils 49 (V.alloc (.cells #[.slice none 0 0] 49)) base j (.slice A2 j c2)) := Lib.hid (ownsRow_keep HV.out.n2 (fun b hb => heap_alloc_old V _ (World.ownsRow.lt HV.out.n2 b hb).2))
      have HC2 := Lib.hid (show (V.alloc (.cells #[.slice none 0 0] 49)).cell? ⟨V.heap.size, 0, none⟩ = some nilV by rw [cell_of_row _ _ 0 _ _ (0, 0) (heap_alloc_new V _)]; rfl)
      clear hV HPUT q0 q1 f0 HOWN HC k0 k1 HN hzl
      go_wp2_with (at_builtin; refine wpList_append_nil rfl _ _ 27 49 rfl Try.underlying27 info_os base j (.slice A2 j c2) rfl HOW2.out (by omega) V.heap.size 1 rfl HC2.out (by have := HV.out.bs; simp; omega) ?_; intro v2' w6 hn6 hg6 ho6; obtain ⟨B2, d2, rfl⟩ := hn6.form; have hr6 := (HV.out.put2 hn6 hg6 ho6 rfl).1; have q0 := cell_of_row w6 z 0 _ _ (0, 0) hr6; have q1 := cell_of_row w6 z 1 _ _ (0, 0) hr6; simp at q0 q1; have f0 := fun j => frozen_of_row w6 z j _ _ hr6; have HPUT2 := Lib.hid (fun W hW => (HV.out.put2 (W := W) hn6 hg6 ho6 hW).2); clear hn6 hg6 ho6 hr6)
      go_roundw
      case rel => exact ⟨j + 1, _, _, by omega, by go_num, Lib.hid (HPUT2.out _ rfl)⟩
      case measure => simp [intOf]; omega
    · obtain rfl : j = N := by omega
      have HFIN : Hid (RefAt wo (fun b => base ≤ b ∧ b < wo.heap.size) (.slice A1 j c1) (.slice A2 j c2) (newM n)) := Lib.hid (by
        rw [HNM.out]
        refine ⟨?_, ?_⟩
        · have := HN.out.n1.lies_w (by omega)
          rw [List.map_replicate]
          exact this
        · have := HN.out.n2.lies_o (by omega)
          rw [List.map_replicate]
          exact this)
      have hz0 := HN.out.r0
      have o0 := cell_of_row wo w.heap.size 0 _ _ (0, 0) hz0
      have o1 := cell_of_row wo w.heap.size 1 _ _ (0, 0) hz0
      simp at o0 o1
      have fz := fun j => frozen_of_row wo w.heap.size j _ _ hz0
      have hz0l : w.heap.size < wo.heap.size := heap_lt hz0
      have HZ0 := Lib.hid hz0
      have HBE := Lib.hid HN.out.bel
      clear hz0
      have HEND := Lib.hid (fun (V : World) (hV : (wo.setCell ⟨w.heap.size, 0, none⟩ (.slice A1 j c1)).setCell ⟨w.heap.size, 1, none⟩ (.slice A2 j c2) = V) => (by
        obtain ⟨g1, g2, g3⟩ := two_fin HZ0.out (Nat.le_refl _) HBE.out _ _ hV
        refine ⟨⟨_, _, rfl, HFIN.out.keep (fun b hb => ?_) (fun b hb => ⟨by have h1 : base ≤ b := hb.1; omega, ?_⟩), g1⟩, g2, g3⟩
        · subst hV
          have h1 : base ≤ b := hb.1
          have h2 : b ≠ w.heap.size := by omega
          exact (Below.heap_setCell _ _ _ b h2).trans (Below.heap_setCell _ _ _ b h2)
        · have : V.heap.size = wo.heap.size := by subst hV; simp
          rw [this]; exact hb.2 : RNew w n (.returned (.agg #[.slice A1 j c1, .slice A2 j c2])) V ∧ V.cell? ⟨w.heap.size, 0, none⟩ = some (.slice A1 j c1) ∧ V.cell? ⟨w.heap.size, 1, none⟩ = some (.slice A2 j c2)))
      rcases hhi with hhi | ⟨hhi, rfl⟩
      · go_wp2
        generalize hV : (wo.setCell ⟨w.heap.size, 0, none⟩ (.slice A1 j c1)).setCell ⟨w.heap.size, 1, none⟩ (.slice A2 j c2) = V
        obtain ⟨e1, e2, e3⟩ := HEND.out V hV
        refine bodyPost_ret (v := .agg #[.slice A1 j c1, .slice A2 j c2]) ?_ rfl e1
        simp [results, Try.results9, go_sem, e2, e3]
      · go_wp2
        generalize hV : (wo.setCell ⟨w.heap.size, 0, none⟩ (.slice A1 4 c1)).setCell ⟨w.heap.size, 1, none⟩ (.slice A2 4 c2) = V
        obtain ⟨e1, e2, e3⟩ := HEND.out V hV
        refine bodyPost_ret (v := .agg #[.slice A1 4 c1, .slice A2 4 c2]) ?_ rfl e1
        simp [results, Try.results9, go_sem, e2, e3]

end Go.Proofs.Ytnplekfpncjnpaa
