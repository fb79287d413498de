/- The document's own memories: copied. -/
import Derived.Test.YtnplekfpncjnpaaHbe
import Derived.Deep.CutRange
import Derived.Deep.RegionHeldLaw
set_option linter.unusedVariables false
set_option linter.unusedSimpArgs false
namespace Go.Proofs.Ytnplekfpncjnpaa
open Go.RowKit

theorem take_at {P : Program} {ops : Array Oper} {Q : Exit → Act → World → Prop} {md : Region.Mode} {S : World → Prop} {i d : Nat} {oi : Oper} {v : Value} {fuel : Nat} {listed : Array Bool} {a : Act} {w : World} (hi : ops[i]? = some oi) (hd : oi.dst = some d)
    (hs : Region.noSelect ops = true) (hf : Region.free md ops listed i = true) (hr : (Region.ready md ops listed).contains i = true)
    (hQ : ∀ c a w, Q (.panic c) (a.put oi.dst v) w → Q (.panic c) a w) (hy : YieldsIf P ops S oi v a) (hS : S w)
    (h : wpAnyH P md ops Q S fuel (listed.setIfInBounds i true) ⟨a.tmps.setIfInBounds d v, a.defers⟩ w) : wpAnyH P md ops Q S (fuel + 1) listed a w :=
  wpAnyH_take hi hs hf hr hQ hy hS (by rw [hd]; exact h)
theorem row_form {w : World} {base : Nat} {e : TypeId} {size n : Nat} {v : Value} {xs : List Value} (h : w.ownsRow base e size v n xs) : ∃ A c, v = .slice A n c := by
  rcases h.2 with ⟨rfl, h2⟩ | ⟨g, cap, cur, rfl, _⟩
  · exact ⟨none, 0, by rw [h2]⟩
  · exact ⟨_, cap, rfl⟩
theorem row_mono {w : World} {base base' : Nat} {e : TypeId} {size n : Nat} {v : Value} {xs : List Value} (h : w.ownsRow base e size v n xs) (hb : base' ≤ base) : w.ownsRow base' e size v n xs := by
  refine ⟨h.1, ?_⟩
  rcases h.2 with hn | ⟨g, cap, cur, rfl, hg, rest⟩
  · exact .inl hn
  · exact .inr ⟨g, cap, cur, rfl, Nat.le_trans hb hg, rest⟩
theorem Own2.mono {α : Type} {cl : α → List Value} {sz : Nat} {eo ei : TypeId} {w : World} {base base' : Nat} {L : List (List α)} {v : Value} {X : List Value} (h : Own2 cl sz eo ei w base L v X) (hb : base' ≤ base) : Own2 cl sz eo ei w base' L v X :=
  ⟨row_mono h.o hb, fun t r hr => by
    obtain ⟨u, hu, ho⟩ := h.i t r hr
    exact ⟨u, hu, row_mono ho hb⟩, h.apo, h.api⟩
abbrev OwnWs (w : World) (base : Nat) (L : List (List Wd)) (v : Value) (X : List Value) : Prop := Own2 wcells 2 48 40 w base L v X
abbrev OwnOs (w : World) (base : Nat) (L : List (List Ob)) (v : Value) (X : List Value) : Prop := Own2 ocells 4 49 45 w base L v X
/-- a pair of lists of rows of a call's own, in the cells of block z -/
structure CSt (W wr : World) (z base : Nat) (L1 : List (List Wd)) (L2 : List (List Ob)) (v1 v2 : Value) (X1 X2 : List Value) : Prop where
  zb : z < base
  row : wr.heap[z]? = some (.cells #[v1, v2] 29 (0, 0))
  a : OwnWs wr base L1 v1 X1
  b : OwnOs wr base L2 v2 X2
  ap : ∀ b, Mine v1 X1 b → ¬ Mine v2 X2 b
  bel : Below z W wr
  bs : base ≤ wr.heap.size
  oth : ∀ b, b < base → b ≠ z → wr.heap[b]? = W.heap[b]?
theorem grown_below {w w' : World} {v : Value} {B : Nat} (hg : w.grownBy w' v.ownBlock) (hB : B ≤ w.heap.size) (hv : ∀ b, v.ownBlock = some b → B ≤ b) : Below B w w' :=
  ⟨hg.os, hg.tape, hg.output, hg.size, fun b hb => hg.block b (by omega) (fun e => by have := hv b e.symm; omega)⟩
theorem setCell_below (w : World) (z o : Nat) (u : Value) : Below z w (w.setCell ⟨z, o, none⟩ u) := ⟨rfl, rfl, rfl, by simp, fun b hb => Below.heap_setCell _ _ _ b (by show b ≠ z; omega)⟩
theorem CSt.put1 {W wr w3 w4 w5 : World} {z base : Nat} {L1 : List (List Wd)} {L2 : List (List Ob)} {v1 v2 u v1' : Value} {X1 X2 : List Value} {r : List Wd} (h : CSt W wr z base L1 L2 v1 v2 X1 X2) (hb : Below wr.heap.size wr w3)
    (hu : w3.ownsRow base 40 2 u r.length (r.map wcells).flatten) (hun : ∀ b, u.ownBlock = some b → wr.heap.size ≤ b) (ho : w4.ownsRow base 48 1 v1' (L1.length + 1) (X1 ++ [u])) (hg : w3.grownBy w4 v1.ownBlock) (hown : v1'.ownBlock = v1.ownBlock ∨ v1'.ownBlock = some w3.heap.size)
    (hW : w4.setCell ⟨z, 0, none⟩ v1' = w5) : w4.heap[z]? = some (.cells #[v1, v2] 29 (0, 0)) ∧ CSt W w5 z base (L1 ++ [r]) L2 v1' v2 (X1 ++ [u]) X2 := by
  subst hW
  have hz := heap_lt h.row
  have ha3 := h.a.keep (w' := w3) (fun b hb' => hb.block b (h.a.lt hb').2)
  have hb3 := h.b.keep (w' := w3) (fun b hb' => hb.block b (h.b.lt hb').2)
  obtain ⟨ha4, hm⟩ := ha3.more hu (fun b e hm => by have := hun b e; have := (h.a.lt hm).2; omega) ho hg hown
  have hv1 : ∀ b, v1.ownBlock = some b → base ≤ b := fun b e => (h.a.lt (.inl e)).1
  have hz4 : w4.heap[z]? = some (.cells #[v1, v2] 29 (0, 0)) := ((hg.block z (by have := hb.size; omega) (fun e => by have := hv1 z e.symm; have := h.zb; omega)).trans (hb.block z hz)).trans h.row
  have hoth : ∀ b, b ≠ z → (w4.setCell ⟨z, 0, none⟩ v1').heap[b]? = w4.heap[b]? := fun b hb => Below.heap_setCell _ _ _ b hb
  refine ⟨hz4, ⟨h.zb, ?_, ha4.keep (fun b hb => hoth b (by have := (ha4.lt hb).1; have := h.zb; omega)), hb3.keep (fun b hm2 => (hoth b (by have := (hb3.lt hm2).1; have := h.zb; omega)).trans (hg.block b (hb3.lt hm2).2 (fun e => h.ap b (.inl e.symm) hm2))), fun b h1 h2 => ?_, ?_, ?_, fun b hbb hne => (hoth b hne).trans ((hg.block b (by have := hb.size; have := h.bs; omega) (fun e => by have := hv1 b e.symm; omega)).trans ((hb.block b (by have := h.bs; omega)).trans (h.oth b hbb hne)))⟩⟩
  · rw [setCell_eq_setRow w4 z 0 _ _ _ _ hz4, setRow_heap w4 z _ _ _ _ hz4]; rfl
  · have h3 := (h.b.lt h2).2
    have h4 := (hb3.lt h2).2
    rcases hm b h1 with h5 | h5 | h5
    · exact h.ap b h5 h2
    · have := hun b h5; omega
    · omega
  · exact h.bel.trans ((hb.mono (by omega)).trans ((grown_below hg (by have := hb.size; omega) (fun b e => by have := hv1 b e; have := h.zb; omega)).trans (setCell_below _ _ _ _)))
  · have := hg.size; have := hb.size; have := h.bs; simp; omega
theorem CSt.put2 {W wr w3 w4 w5 : World} {z base : Nat} {L1 : List (List Wd)} {L2 : List (List Ob)} {v1 v2 u v2' : Value} {X1 X2 : List Value} {r : List Ob} (h : CSt W wr z base L1 L2 v1 v2 X1 X2) (hb : Below wr.heap.size wr w3)
    (hu : w3.ownsRow base 45 4 u r.length (r.map ocells).flatten) (hun : ∀ b, u.ownBlock = some b → wr.heap.size ≤ b) (ho : w4.ownsRow base 49 1 v2' (L2.length + 1) (X2 ++ [u])) (hg : w3.grownBy w4 v2.ownBlock) (hown : v2'.ownBlock = v2.ownBlock ∨ v2'.ownBlock = some w3.heap.size)
    (hW : w4.setCell ⟨z, 1, none⟩ v2' = w5) : w4.heap[z]? = some (.cells #[v1, v2] 29 (0, 0)) ∧ CSt W w5 z base L1 (L2 ++ [r]) v1 v2' X1 (X2 ++ [u]) := by
  subst hW
  have hz := heap_lt h.row
  have ha3 := h.a.keep (w' := w3) (fun b hb' => hb.block b (h.a.lt hb').2)
  have hb3 := h.b.keep (w' := w3) (fun b hb' => hb.block b (h.b.lt hb').2)
  obtain ⟨hb4, hm⟩ := hb3.more hu (fun b e hm => by have := hun b e; have := (h.b.lt hm).2; omega) ho hg hown
  have hv1 : ∀ b, v2.ownBlock = some b → base ≤ b := fun b e => (h.b.lt (.inl e)).1
  have hz4 : w4.heap[z]? = some (.cells #[v1, v2] 29 (0, 0)) := ((hg.block z (by have := hb.size; omega) (fun e => by have := hv1 z e.symm; have := h.zb; omega)).trans (hb.block z hz)).trans h.row
  have hoth : ∀ b, b ≠ z → (w4.setCell ⟨z, 1, none⟩ v2').heap[b]? = w4.heap[b]? := fun b hb => Below.heap_setCell _ _ _ b hb
  refine ⟨hz4, ⟨h.zb, ?_, ha3.keep (fun b hm2 => (hoth b (by have := (ha3.lt hm2).1; have := h.zb; omega)).trans (hg.block b (ha3.lt hm2).2 (fun e => h.ap b hm2 (.inl e.symm)))), hb4.keep (fun b hb => hoth b (by have := (hb4.lt hb).1; have := h.zb; omega)), fun b h1 h2 => ?_, ?_, ?_, fun b hbb hne => (hoth b hne).trans ((hg.block b (by have := hb.size; have := h.bs; omega) (fun e => by have := hv1 b e.symm; omega)).trans ((hb.block b (by have := h.bs; omega)).trans (h.oth b hbb hne)))⟩⟩
  · rw [setCell_eq_setRow w4 z 1 _ _ _ _ hz4, setRow_heap w4 z _ _ _ _ hz4]; rfl
  · have h3 := (h.a.lt h1).2
    have h4 := (ha3.lt h1).2
    rcases hm b h2 with h5 | h5 | h5
    · exact h.ap b h1 h5
    · have := hun b h5; omega
    · omega
  · exact h.bel.trans ((hb.mono (by omega)).trans ((grown_below hg (by have := hb.size; omega) (fun b e => by have := hv1 b e; have := h.zb; omega)).trans (setCell_below _ _ _ _)))
  · have := hg.size; have := hb.size; have := h.bs; simp; omega
/-- the document's heap H, in memory of a call's own, all rows apart -/
structure ROwn (w : World) (base : Nat) (H : Hp) (v1 v2 : Value) (X1 X2 : List Value) : Prop where
  a : OwnWs w base (H.map (·.ws)) v1 X1
  b : OwnOs w base (H.map (·.os)) v2 X2
  ap : ∀ b, Mine v1 X1 b → ¬ Mine v2 X2 b
theorem wcells_len (a : Wd) : (wcells a).length = KWd.sz := rfl
theorem ocells_len (a : Ob) : (ocells a).length = KOb.sz := rfl
theorem ROwn.ref {w : World} {base : Nat} {H : Hp} {v1 v2 : Value} {X1 X2 : List Value} (h : ROwn w base H v1 v2 X1 X2) (hg : GoodH H) : RefAt w (fun b => base ≤ b ∧ b < w.heap.size) v1 v2 H := by
  have h4 := hg.1
  have h1 : ∀ r ∈ H.map (·.ws), r.length ≤ 1000 := fun r hr => by
    obtain ⟨m, hm, rfl⟩ := List.mem_map.1 hr
    have := (hg.2 m hm).2; omega
  have h2 : ∀ r ∈ H.map (·.os), r.length ≤ 1000 := fun r hr => by
    obtain ⟨m, hm, rfl⟩ := List.mem_map.1 hr
    have := chained_le (hg.2 m hm).1
    have := (hg.2 m hm).2
    show m.os.length ≤ 1000
    omega
  exact ⟨(Own2.lies (K := KWd) (K2 := KWs) rfl (fun w S ws v h => ⟨v, rfl, h⟩) (fun w S a cs h => h) wcells_len h.a (by rw [List.length_map]; omega) h1).keep (fun _ _ => rfl) (fun b hb => h.a.lt hb),
    (Own2.lies (K := KOb) (K2 := KOs) rfl (fun w S ws v h => ⟨v, rfl, h⟩) (fun w S a cs h => h) ocells_len h.b (by rw [List.length_map]; omega) h2).keep (fun _ _ => rfl) (fun b hb => h.b.lt hb)⟩
def RCopy (w : World) (H : Hp) (e : Ending) (w' : World) : Prop := ∃ v1 v2 X1 X2, e = .returned (.agg #[v1, v2]) ∧ ROwn w' w.heap.size H v1 v2 X1 X2 ∧ Below w.heap.size w w'
theorem take_ws (H : Hp) {j : Nat} (hj : j < H.length) : (H.map (·.ws)).take (j + 1) = (H.map (·.ws)).take j ++ [(getM H j).ws] := by
  rw [List.take_add_one, List.getElem?_map, List.getElem?_eq_getElem hj, getM_lt hj]; rfl
theorem take_os (H : Hp) {j : Nat} (hj : j < H.length) : (H.map (·.os)).take (j + 1) = (H.map (·.os)).take j ++ [(getM H j).os] := by
  rw [List.take_add_one, List.getElem?_map, List.getElem?_eq_getElem hj, getM_lt hj]; rfl
theorem CSt.go1 {W wo : World} {z base n m : Nat} {L1 : List (List Wd)} {L2 : List (List Ob)} {v1 v2 src : Value} {X1 X2 : List Value} {S : Nat → Prop} {r : List Wd} (h : CSt W wo z base L1 L2 v1 v2 X1 X2) (hl : Lies KWd wo S r src) (hS : ∀ b, S b → b < wo.heap.size) (hr : r.length = m) (hm : m ≤ 1000) (hn : L1.length = n) (hn2 : n ≤ 1000) :
    ∃ B3 d3 w2 B5 d5 w4, (Builtin.append_ #[48, 48] 48 #[.slice (some ⟨wo.heap.size, 0, none⟩) 0 0, src]).run Try.prog (wo.drew.alloc (.cells #[] 40)) = .ok (.slice B3 m d3) w2 ∧
      (Builtin.append_ #[26, 26] 26 #[v1, .slice (some ⟨w2.heap.size, 0, none⟩) 1 1]).run Try.prog (w2.alloc (.cells #[.slice B3 m d3] 48)) = .ok (.slice B5 (n + 1) d5) w4 ∧
      (Below wo.heap.size wo wo.drew ∧ Below wo.heap.size wo (wo.drew.alloc (.cells #[] 40)) ∧ Below wo.heap.size wo w2 ∧ Below wo.heap.size wo (w2.alloc (.cells #[.slice B3 m d3] 48))) ∧ Below z W w4 ∧
      w4.heap[z]? = some (.cells #[v1, v2] 29 (0, 0)) ∧ CSt W (w4.setCell ⟨z, 0, none⟩ (.slice B5 (n + 1) d5)) z base (L1 ++ [r]) L2 (.slice B5 (n + 1) d5) v2 (X1 ++ [.slice B3 m d3]) X2 := by
  subst hr
  subst hn
  obtain ⟨i, hi, hz, hs, hy⟩ := info_parts infoW
  have hown0 := World.ownsRow_lit (e := 40) (size := 2) (base := base) wo.drew #[] 0 h.bs (by unfold maxLen; omega) (by simp)
  obtain ⟨u, w2, hr1, o2, g2, n2⟩ := run_clone (K := KWd) (cl := wcells) (ty := 48) (fun w S a cs h => h) wcells_len wone Try.underlying48 hi hz hs hy rfl (by decide) hown0 r src (hl.keep (fun b hb => heap_alloc_old _ _ (hS b hb)) (fun _ h => h)) hm (by have := h.bs; simp; omega)
  obtain ⟨B3, d3, rfl⟩ := row_form o2
  have hLD : Below wo.heap.size wo wo.drew := (Below.refl _ wo).drew
  have hLA : Below wo.heap.size wo (wo.drew.alloc (.cells #[] 40)) := hLD.alloc (Nat.le_refl _) _
  have hL2 : Below wo.heap.size wo w2 := hLA.trans ⟨g2.os, g2.tape, g2.output, g2.size, fun b hb => g2.block b (Nat.lt_of_lt_of_le hb hLA.size) (fun e => by
    have : b = wo.heap.size := by simpa using e
    omega)⟩
  have hL3 : Below wo.heap.size wo (w2.alloc (.cells #[.slice B3 r.length d3] 48)) := hL2.trans (((Below.refl w2.heap.size w2).alloc (Nat.le_refl _) _).mono hL2.size)
  have hun : ∀ b, (Value.slice B3 r.length d3).ownBlock = some b → wo.heap.size ≤ b := fun b e => by
    rcases n2 with n2 | n2
    · rw [n2] at e; cases e; exact Nat.le_refl _
    · rw [n2] at e; cases e; exact hLA.size
  obtain ⟨i2, hi2, hz2, hs2, hy2⟩ := info_parts info_ws
  have h3 := h.a.keep (w' := w2.alloc (.cells #[.slice B3 r.length d3] 48)) (fun b hb => hL3.block b (h.a.lt hb).2)
  obtain ⟨v', w4, hr2, o4, g4, -, n4⟩ := run_append_own_at (P := Try.prog) (w := w2.alloc (.cells #[.slice B3 r.length d3] 48)) base 26 26 48 i2 nilV 1 24 Try.underlying26 hi2 hz2 hs2 hy2 rfl (by decide) v1 L1.length X1 h3.o ⟨w2.heap.size, 0, none⟩ 1 1 [.slice B3 r.length d3] rfl (fun j x hx => by
    match j, hx with
    | 0, hx => simp at hx; subst hx; rw [add_none, cell_of_row _ _ (0 + 0) _ _ (0, 0) (heap_alloc_new w2 _)]; rfl
    | j + 1, hx => simp at hx) (by simp; rfl) (by unfold maxLen; omega) (by omega) (by have := h.bs; have := hL3.size; omega)
  obtain ⟨B5, d5, rfl⟩ := row_form o4
  have hput := h.put1 hL3 (ownsRow_keep o2 (fun b hb => heap_alloc_old _ _ (World.ownsRow.lt o2 b hb).2)) hun o4 g4 n4 rfl
  exact ⟨B3, d3, w2, B5, d5, w4, hr1, hr2, ⟨hLD, hLA, hL2, hL3⟩, h.bel.trans ((hL3.mono (by have := h.zb; have := h.bs; omega)).trans (grown_below g4 (by have := hL3.size; have := h.zb; have := h.bs; omega) (fun b e => by have := (h.a.lt (.inl e)).1; have := h.zb; omega))), hput.1, hput.2⟩
theorem CSt.go2 {W wo : World} {z base n m : Nat} {L1 : List (List Wd)} {L2 : List (List Ob)} {v1 v2 src : Value} {X1 X2 : List Value} {S : Nat → Prop} {r : List Ob} (h : CSt W wo z base L1 L2 v1 v2 X1 X2) (hl : Lies KOb wo S r src) (hS : ∀ b, S b → b < wo.heap.size) (hr : r.length = m) (hm : m ≤ 1000) (hn : L2.length = n) (hn2 : n ≤ 1000) :
    ∃ B3 d3 w2 B5 d5 w4, (Builtin.append_ #[49, 49] 49 #[.slice (some ⟨wo.heap.size, 0, none⟩) 0 0, src]).run Try.prog (wo.drew.alloc (.cells #[] 45)) = .ok (.slice B3 m d3) w2 ∧
      (Builtin.append_ #[27, 27] 27 #[v2, .slice (some ⟨w2.heap.size, 0, none⟩) 1 1]).run Try.prog (w2.alloc (.cells #[.slice B3 m d3] 49)) = .ok (.slice B5 (n + 1) d5) w4 ∧
      (Below wo.heap.size wo wo.drew ∧ Below wo.heap.size wo (wo.drew.alloc (.cells #[] 45)) ∧ Below wo.heap.size wo w2 ∧ Below wo.heap.size wo (w2.alloc (.cells #[.slice B3 m d3] 49))) ∧ Below z W w4 ∧
      w4.heap[z]? = some (.cells #[v1, v2] 29 (0, 0)) ∧ CSt W (w4.setCell ⟨z, 1, none⟩ (.slice B5 (n + 1) d5)) z base L1 (L2 ++ [r]) v1 (.slice B5 (n + 1) d5) X1 (X2 ++ [.slice B3 m d3]) := by
  subst hr
  subst hn
  obtain ⟨i, hi, hz, hs, hy⟩ := info_parts infoO
  have hown0 := World.ownsRow_lit (e := 45) (size := 4) (base := base) wo.drew #[] 0 h.bs (by unfold maxLen; omega) (by simp)
  obtain ⟨u, w2, hr1, o2, g2, n2⟩ := run_clone (K := KOb) (cl := ocells) (ty := 49) (fun w S a cs h => h) ocells_len oone Try.underlying49 hi hz hs hy rfl (by decide) hown0 r src (hl.keep (fun b hb => heap_alloc_old _ _ (hS b hb)) (fun _ h => h)) hm (by have := h.bs; simp; omega)
  obtain ⟨B3, d3, rfl⟩ := row_form o2
  have hLD : Below wo.heap.size wo wo.drew := (Below.refl _ wo).drew
  have hLA : Below wo.heap.size wo (wo.drew.alloc (.cells #[] 45)) := hLD.alloc (Nat.le_refl _) _
  have hL2 : Below wo.heap.size wo w2 := hLA.trans ⟨g2.os, g2.tape, g2.output, g2.size, fun b hb => g2.block b (Nat.lt_of_lt_of_le hb hLA.size) (fun e => by
    have : b = wo.heap.size := by simpa using e
    omega)⟩
  have hL3 : Below wo.heap.size wo (w2.alloc (.cells #[.slice B3 r.length d3] 49)) := hL2.trans (((Below.refl w2.heap.size w2).alloc (Nat.le_refl _) _).mono hL2.size)
  have hun : ∀ b, (Value.slice B3 r.length d3).ownBlock = some b → wo.heap.size ≤ b := fun b e => by
    rcases n2 with n2 | n2
    · rw [n2] at e; cases e; exact Nat.le_refl _
    · rw [n2] at e; cases e; exact hLA.size
  obtain ⟨i2, hi2, hz2, hs2, hy2⟩ := info_parts info_os
  have h3 := h.b.keep (w' := w2.alloc (.cells #[.slice B3 r.length d3] 49)) (fun b hb => hL3.block b (h.b.lt hb).2)
  obtain ⟨v', w4, hr2, o4, g4, -, n4⟩ := run_append_own_at (P := Try.prog) (w := w2.alloc (.cells #[.slice B3 r.length d3] 49)) base 27 27 49 i2 nilV 1 24 Try.underlying27 hi2 hz2 hs2 hy2 rfl (by decide) v2 L2.length X2 h3.o ⟨w2.heap.size, 0, none⟩ 1 1 [.slice B3 r.length d3] rfl (fun j x hx => by
    match j, hx with
    | 0, hx => simp at hx; subst hx; rw [add_none, cell_of_row _ _ (0 + 0) _ _ (0, 0) (heap_alloc_new w2 _)]; rfl
    | j + 1, hx => simp at hx) (by simp; rfl) (by unfold maxLen; omega) (by omega) (by have := h.bs; have := hL3.size; omega)
  obtain ⟨B5, d5, rfl⟩ := row_form o4
  have hput := h.put2 hL3 (ownsRow_keep o2 (fun b hb => heap_alloc_old _ _ (World.ownsRow.lt o2 b hb).2)) hun o4 g4 n4 rfl
  exact ⟨B3, d3, w2, B5, d5, w4, hr1, hr2, ⟨hLD, hLA, hL2, hL3⟩, h.bel.trans ((hL3.mono (by have := h.zb; have := h.bs; omega)).trans (grown_below g4 (by have := hL3.size; have := h.zb; have := h.bs; omega) (fun b e => by have := (h.b.lt (.inl e)).1; have := h.zb; omega))), hput.1, hput.2⟩
set_option maxRecDepth 100000 in
set_option maxHeartbeats 4000000 in
theorem rcopied_any {w : World} {S : Nat → Prop} {u1 u2 : Value} {H : Hp} (X : RefAt w S u1 u2 H) (hS : ∀ b, S b → b < w.heap.size) (hg : GoodH H) :
    Calls Try.prog 23 #[.agg #[u1, u2]] w (RCopy w H) := by
  obtain ⟨A, c, A', c', rfl, hc, rfl, hc'⟩ := X.form
  obtain ⟨n, hn⟩ : ∃ n, n = H.length := ⟨_, rfl⟩
  have h4 := hg.1
  have hX := X
  rw [← hn] at hc hc' h4 hX ⊢
  obtain ⟨W, hW⟩ : ∃ W : World, W = ((w.alloc (.cells #[.slice A n c, .slice A' n c'] 29)).alloc (.cells #[nilV, nilV] 29)).alloc (.cells #[nilV, nilV] 29) := ⟨_, rfl⟩
  have hs : W.heap.size = w.heap.size + 3 := by rw [hW]; simp
  have hb : Below w.heap.size w W := by rw [hW]; exact (((Below.refl _ w).alloc (Nat.le_refl _) _).alloc (by simp) _).alloc (by simp; omega) _
  have r0 : W.heap[w.heap.size]? = some (.cells #[.slice A n c, .slice A' n c'] 29 (0, 0)) := by rw [hW, heap_alloc_old _ _ (by simp; omega), heap_alloc_old _ _ (by simp), heap_alloc_new]
  have r1 : W.heap[w.heap.size + 1]? = some (.cells #[nilV, nilV] 29 (0, 0)) := by rw [hW, heap_alloc_old _ _ (by simp)]; exact two_new w _ _ _
  have r2 : W.heap[w.heap.size + 2]? = some (.cells #[nilV, nilV] 29 (0, 0)) := by
    rw [hW]
    have := two_new (w.alloc (.cells #[.slice A n c, .slice A' n c'] 29)) (.cells #[nilV, nilV] 29) #[nilV, nilV] 29
    simpa using this
  have HST : Hid (CSt W W (w.heap.size + 2) (w.heap.size + 3) ((H.map (·.ws)).take 0) ((H.map (·.os)).take 0) nilV nilV [] []) := Lib.hid ⟨by omega, r2, Own2.nil _ _, Own2.nil _ _, (fun b hb => by rcases hb with hb | ⟨t, u, hu, _⟩; cases hb; simp at hu), Below.refl _ _, by omega, fun _ _ _ => rfl⟩
  have HW := Lib.hid hW
  unfold nilV at HW
  obtain ⟨x0, hx0⟩ : ∃ z, z = w.heap.size := ⟨_, rfl⟩
  obtain ⟨z, hz⟩ : ∃ z, z = w.heap.size + 2 := ⟨_, rfl⟩
  obtain ⟨base, hbase⟩ : ∃ z, z = w.heap.size + 3 := ⟨_, rfl⟩
  rw [← hz, ← hbase] at HST
  have HX := Lib.hid hX
  have HS := Lib.hid hS
  have HG := Lib.hid hg
  have HN := Lib.hid hn
  have HB := Lib.hid hb
  have HR0 := Lib.hid r0
  have HQ1 := Lib.hid r1
  have HWS := Lib.hid hs
  have HX0 := Lib.hid hx0
  have HZE := Lib.hid hz
  have HBE := Lib.hid hbase
  clear X hX hS hg hn hs hb r0 r1 r2 hW
  go_enter Try.func23, Try.ntmps23
  go_wp2
  rw [← HW.out, ← hz, ← hx0]
  clear HW hz hx0 hbase
  go_loopw [4] (fun x wr => ∃ (j : Nat) (v1 v2 : Value) (X1 X2 : List Value), j ≤ n ∧ x = .int .i64 (j : Nat) ∧ Hid (CSt W wr z base ((H.map (·.ws)).take j) ((H.map (·.os)).take j) v1 v2 X1 X2)) (fun x _ => n - (intOf x).toNat)
  case atStart => exact ⟨0, _, _, _, _, Nat.zero_le _, rfl, HST⟩
  case round =>
    obtain ⟨wo, rfl⟩ : ∃ wo : World, wo = wr := ⟨_, rfl⟩
    obtain ⟨j, v1, v2, X1, X2, hj, rfl, HC⟩ := hrel
    have hl1 : ((H.map (·.ws)).take j).length = j := by rw [List.length_take, List.length_map, ← HN.out]; omega
    have hl2 : ((H.map (·.os)).take j).length = j := by rw [List.length_take, List.length_map, ← HN.out]; omega
    obtain ⟨A1, c1, e1⟩ := row_form HC.out.a.o
    obtain ⟨A2, c2, e2⟩ := row_form HC.out.b.o
    rw [hl1] at e1
    rw [hl2] at e2
    subst e1
    subst e2
    have hbz := HC.out.bel
    have i0 : W.heap[x0]? = some (.cells #[.slice A n c, .slice A' n c'] 29 (0, 0)) := by rw [HX0.out]; exact HR0.out
    have hxz : x0 < z := by rw [HX0.out, HZE.out]; omega
    have HI0 : Hid (∀ wx, Below z W wx → wx.heap[x0]? = some (.cells #[.slice A n c, .slice A' n c'] 29 (0, 0))) := Lib.hid (fun wx hb => (hb.block x0 hxz).trans i0)
    clear i0
    by_cases hlt : j < n
    · have htj : j < H.length := by rw [← HN.out]; exact hlt
      obtain ⟨b, off, B, d, rfl, hb, k0, hd, hlw⟩ := HX.out.words htj
      obtain ⟨b2, off2, B2, d2, rfl, hb2, q0, hd2, hlo⟩ := HX.out.objects htj
      have hbl := HS.out b hb
      have hbl2 := HS.out b2 hb2
      have hg64 := (HG.out.get j).2
      have hol : (getM H j).os.length ≤ 64 := by have := chained_le (HG.out.get j).1; omega
      obtain ⟨m, hm⟩ : ∃ m, m = (getM H j).ws.length := ⟨_, rfl⟩
      obtain ⟨m2, hm2⟩ : ∃ m, m = (getM H j).os.length := ⟨_, rfl⟩
      rw [← hm] at k0 hlw hd hg64
      rw [← hm2] at q0 hlo hd2 hol
      have hWk : ∀ wx, Below z W wx → ∀ b, b < w.heap.size → wx.heap[b]? = w.heap[b]? := fun wx h b hb => (h.block b (by rw [HZE.out]; omega)).trans (HB.out.block b hb)
      have HK1 : Hid (∀ wx, Below z W wx → wx.cell? ⟨x0, 0, none⟩ = some (.slice (some ⟨b, off, none⟩) n c) ∧ wx.cell? ⟨b, off + j, none⟩ = some (.slice B m d)) := Lib.hid (fun wx h => ⟨by rw [cell_of_row _ _ 0 _ _ (0, 0) (HI0.out wx h)]; rfl, (World.cell?_of_block (hWk wx h b hbl)).trans k0⟩)
      have HK2 : Hid (∀ wx, Below z W wx → wx.cell? ⟨x0, 1, none⟩ = some (.slice (some ⟨b2, off2, none⟩) n c') ∧ wx.cell? ⟨b2, off2 + j, none⟩ = some (.slice B2 m2 d2)) := Lib.hid (fun wx h => ⟨by rw [cell_of_row _ _ 1 _ _ (0, 0) (HI0.out wx h)]; rfl, (World.cell?_of_block (hWk wx h b2 hbl2)).trans q0⟩)
      have HWK := Lib.hid hWk
      have HLW := Lib.hid hlw
      have HLO := Lib.hid hlo
      have HM := Lib.hid hm
      have HM2 := Lib.hid hm2
      have i1 : (0 : Int) ≤ (j : Int) := by omega
      have i2 : (j : Int) < (n : Int) := by omega
      have hj3 : j ≤ 1000 := by omega
      have hsz : ∀ wx, Below z W wx → w.heap.size ≤ wx.heap.size := fun wx h => by have := h.size; have := HWS.out; omega
      obtain ⟨B3, d3, w2, B5, d5, w4, hr1, hr2, ⟨lD, lA, lB, lC⟩, l4, hz4, hput⟩ := HC.out.go1 (hlw.keep (fun b hb => hWk wo hbz b (HS.out b hb)) (fun _ h => h)) (fun b hb => Nat.lt_of_lt_of_le (HS.out b hb) (hsz wo hbz)) hm.symm (by omega) hl1 hj3
      have HR1 := Lib.hid hr1
      have HR2 := Lib.hid hr2
      have hzo := HC.out.row
      have hzl := heap_lt hzo
      have kz0 := cell_of_row _ z 0 _ _ (0, 0) hzo
      simp at kz0
      have HZO := Lib.hid kz0
      have HZD := Lib.hid ((lD.cell (p := ⟨z, 0, none⟩) hzl).trans kz0)
      have HZA := Lib.hid ((lA.cell (p := ⟨z, 0, none⟩) hzl).trans kz0)
      have HZB := Lib.hid ((lB.cell (p := ⟨z, 0, none⟩) hzl).trans kz0)
      have HZC := Lib.hid ((lC.cell (p := ⟨z, 0, none⟩) hzl).trans kz0)
      have hle : z ≤ wo.heap.size := by omega
      have LD := Lib.hid (hbz.trans (lD.mono hle))
      have LA := Lib.hid (hbz.trans (lA.mono hle))
      have LB := Lib.hid (hbz.trans (lB.mono hle))
      have LC := Lib.hid (hbz.trans (lC.mono hle))
      have L4 := Lib.hid l4
      have L5 := Lib.hid (l4.trans (setCell_below w4 z 0 (.slice B5 (j + 1) d5)))
      have HZ4 := Lib.hid hz4
      rw [← take_ws H htj] at hput
      have HP := Lib.hid hput
      have HKS := HK1
      have l0 := (HK1.out wo hbz).1
      clear hr1 hr2 lD lA lB lC l4 hz4 hput hzo kz0 hlw hlo hm hm2 k0 q0 hWk hsz hbz hl1 hl2 hd hd2
      go_upto_region 5 with fail
      go_cut [] from 13 to 25 (fun wx => ∃ (B5 : Option Addr) (d5 : Nat) (X1' : List Value), Hid (CSt W wx z base ((H.map (·.ws)).take (j + 1)) ((H.map (·.os)).take j) (.slice B5 (j + 1) d5) (.slice A2 j c2) X1' X2))
      case first =>
        have HDONE : Hid (∃ (B5' : Option Addr) (d5' : Nat) (X1' : List Value), Hid (CSt W (w4.setCell ⟨z, 0, none⟩ (.slice B5 (j + 1) d5)) z base ((H.map (·.ws)).take (j + 1)) ((H.map (·.os)).take j) (.slice B5' (j + 1) d5') (.slice A2 j c2) X1' X2)) := Lib.hid ⟨_, _, _, HP⟩
        refine wp_region_held_drew (S := fun W => W.cell? ⟨x0, 0, none⟩ = some (.slice (some ⟨b, off, none⟩) n c) ∧ W.cell? ⟨b, off + j, none⟩ = some (.slice B m d)) (by kernel_rfl) (HKS.out _ LD.out) (fun hHeld => ?_)
        refine take_at (i := 0) (oi := _) (v := .pointer (some ⟨z, 0, none⟩)) rfl rfl (by kernel_rfl) (by kernel_rfl) (by kernel_rfl) (fun _ _ _ h => h) (Or.inl ⟨by rfl, fun W hSw => ?_⟩) hHeld ?_
        · obtain ⟨e1, e2⟩ := hSw
          go_simp
        simp only [List.setIfInBounds_toArray, List.set_cons_zero, List.set_cons_succ]
        refine take_at (i := 3) (oi := _) (v := .pointer (some ⟨x0, 0, none⟩)) rfl rfl (by kernel_rfl) (by kernel_rfl) (by kernel_rfl) (fun _ _ _ h => h) (Or.inl ⟨by rfl, fun W hSw => ?_⟩) hHeld ?_
        · obtain ⟨e1, e2⟩ := hSw
          go_simp
        simp only [List.setIfInBounds_toArray, List.set_cons_zero, List.set_cons_succ]
        refine take_at (i := 4) (oi := _) (v := .slice (some ⟨b, off, none⟩) n c) rfl rfl (by kernel_rfl) (by kernel_rfl) (by kernel_rfl) (fun _ _ _ h => h) (Or.inl ⟨by rfl, fun W hSw => ?_⟩) hHeld ?_
        · obtain ⟨e1, e2⟩ := hSw
          go_simp
        simp only [List.setIfInBounds_toArray, List.set_cons_zero, List.set_cons_succ]
        refine take_at (i := 5) (oi := _) (v := .int .i64 (j : Nat)) rfl rfl (by kernel_rfl) (by kernel_rfl) (by kernel_rfl) (fun _ _ _ h => h) (Or.inl ⟨by rfl, fun W hSw => ?_⟩) hHeld ?_
        · obtain ⟨e1, e2⟩ := hSw
          go_simp
        simp only [List.setIfInBounds_toArray, List.set_cons_zero, List.set_cons_succ]
        refine take_at (i := 6) (oi := _) (v := .pointer (some ⟨b, off + j, none⟩)) rfl rfl (by kernel_rfl) (by kernel_rfl) (by kernel_rfl) (fun _ _ _ h => h) (Or.inl ⟨by rfl, fun W hSw => ?_⟩) hHeld ?_
        · obtain ⟨e1, e2⟩ := hSw
          go_simp
        simp only [List.setIfInBounds_toArray, List.set_cons_zero, List.set_cons_succ]
        refine take_at (i := 7) (oi := _) (v := .slice B m d) rfl rfl (by kernel_rfl) (by kernel_rfl) (by kernel_rfl) (fun _ _ _ h => h) (Or.inl ⟨by rfl, fun W hSw => ?_⟩) hHeld ?_
        · obtain ⟨e1, e2⟩ := hSw
          go_simp
        simp only [List.setIfInBounds_toArray, List.set_cons_zero, List.set_cons_succ]
        refine wpAnyH_ready (rs := [1, 2]) (by kernel_rfl) (by simp) ?_
        refine AllReadyH.cons rfl (fun K hK => ?_) ?_
        · have k := (HZO.out)
          have k1 := (HZB.out)
          have k2 := (HZC.out)
          go_simp
          clear k k1 k2
          refine hK.out _ _ (HKS.out _ LD.out) (fun hHeld => ?_)
          clear hK K
          try simp only [List.setIfInBounds_toArray, List.set_cons_zero, List.set_cons_succ]
          refine wpAnyH_ready (rs := [2]) (by kernel_rfl) (by simp) ?_
          refine AllReadyH.cons rfl (fun K hK => ?_) ?_
          · go_simp
            refine hK.out _ _ (HKS.out _ LA.out) (fun hHeld => ?_)
            clear hK K
            try simp only [List.setIfInBounds_toArray, List.set_cons_zero, List.set_cons_succ]
            refine wpAnyH_ready (rs := [8]) (by kernel_rfl) (by simp) ?_
            refine AllReadyH.cons rfl (fun K hK => ?_) ?_
            · refine step_append_run 21 rfl rfl _ _ 48 rfl (.slice (some ⟨wo.heap.size, 0, none⟩) 0 0) (.slice B m d) rfl rfl _ rfl HR1.out ?_
              refine hK.out _ _ (HKS.out _ LB.out) (fun hHeld => ?_)
              clear hK K
              try simp only [List.setIfInBounds_toArray, List.set_cons_zero, List.set_cons_succ]
              refine wpAnyH_ready (rs := [9]) (by kernel_rfl) (by simp) ?_
              refine AllReadyH.cons rfl (fun K hK => ?_) ?_
              · go_simp
                refine hK.out _ _ (HKS.out _ LC.out) (fun hHeld => ?_)
                clear hK K
                try simp only [List.setIfInBounds_toArray, List.set_cons_zero, List.set_cons_succ]
                refine wpAnyH_ready (rs := [10]) (by kernel_rfl) (by simp) ?_
                refine AllReadyH.cons rfl (fun K hK => ?_) ?_
                · refine step_append_run 23 rfl rfl _ _ 26 rfl (.slice A1 j c1) (.slice (some ⟨w2.heap.size, 0, none⟩) 1 1) rfl rfl _ rfl HR2.out ?_
                  refine hK.out _ _ (HKS.out _ L4.out) (fun hHeld => ?_)
                  clear hK K
                  try simp only [List.setIfInBounds_toArray, List.set_cons_zero, List.set_cons_succ]
                  refine take_at (i := 11) (oi := _) (v := .pointer (some ⟨z, 0, none⟩)) rfl rfl (by kernel_rfl) (by kernel_rfl) (by kernel_rfl) (fun _ _ _ h => h) (Or.inl ⟨by rfl, fun W hSw => ?_⟩) hHeld ?_
                  · obtain ⟨e1, e2⟩ := hSw
                    go_simp
                  simp only [List.setIfInBounds_toArray, List.set_cons_zero, List.set_cons_succ]
                  refine wpAnyH_ready (rs := [12]) (by kernel_rfl) (by simp) ?_
                  refine AllReadyH.cons rfl (fun K hK => ?_) ?_
                  · have k0 := cell_of_row _ z 0 _ _ (0, 0) HZ4.out
                    have f0 := fun j => frozen_of_row _ z j _ _ HZ4.out
                    simp at k0
                    go_simp
                    clear k0 f0
                    refine hK.out _ _ (HKS.out _ L5.out) (fun hHeld => ?_)
                    clear hK K
                    try simp only [List.setIfInBounds_toArray, List.set_cons_zero, List.set_cons_succ]
                    refine wpAnyH_done (by kernel_rfl) ?_ _
                    go_wp2_with fail
                    go_meet
                    exact HDONE.out
                  exact AllReadyH.nil
                exact AllReadyH.nil
              exact AllReadyH.nil
            exact AllReadyH.nil
          exact AllReadyH.nil
        refine AllReadyH.cons rfl (fun K hK => ?_) ?_
        · go_simp
          refine hK.out _ _ (HKS.out _ LA.out) (fun hHeld => ?_)
          clear hK K
          try simp only [List.setIfInBounds_toArray, List.set_cons_zero, List.set_cons_succ]
          refine wpAnyH_ready (rs := [1, 8]) (by kernel_rfl) (by simp) ?_
          refine AllReadyH.cons rfl (fun K hK => ?_) ?_
          · have k := (HZO.out)
            have k1 := (HZB.out)
            have k2 := (HZC.out)
            go_simp
            clear k k1 k2
            refine hK.out _ _ (HKS.out _ LA.out) (fun hHeld => ?_)
            clear hK K
            try simp only [List.setIfInBounds_toArray, List.set_cons_zero, List.set_cons_succ]
            refine wpAnyH_ready (rs := [8]) (by kernel_rfl) (by simp) ?_
            refine AllReadyH.cons rfl (fun K hK => ?_) ?_
            · refine step_append_run 21 rfl rfl _ _ 48 rfl (.slice (some ⟨wo.heap.size, 0, none⟩) 0 0) (.slice B m d) rfl rfl _ rfl HR1.out ?_
              refine hK.out _ _ (HKS.out _ LB.out) (fun hHeld => ?_)
              clear hK K
              try simp only [List.setIfInBounds_toArray, List.set_cons_zero, List.set_cons_succ]
              refine wpAnyH_ready (rs := [9]) (by kernel_rfl) (by simp) ?_
              refine AllReadyH.cons rfl (fun K hK => ?_) ?_
              · go_simp
                refine hK.out _ _ (HKS.out _ LC.out) (fun hHeld => ?_)
                clear hK K
                try simp only [List.setIfInBounds_toArray, List.set_cons_zero, List.set_cons_succ]
                refine wpAnyH_ready (rs := [10]) (by kernel_rfl) (by simp) ?_
                refine AllReadyH.cons rfl (fun K hK => ?_) ?_
                · refine step_append_run 23 rfl rfl _ _ 26 rfl (.slice A1 j c1) (.slice (some ⟨w2.heap.size, 0, none⟩) 1 1) rfl rfl _ rfl HR2.out ?_
                  refine hK.out _ _ (HKS.out _ L4.out) (fun hHeld => ?_)
                  clear hK K
                  try simp only [List.setIfInBounds_toArray, List.set_cons_zero, List.set_cons_succ]
                  refine take_at (i := 11) (oi := _) (v := .pointer (some ⟨z, 0, none⟩)) rfl rfl (by kernel_rfl) (by kernel_rfl) (by kernel_rfl) (fun _ _ _ h => h) (Or.inl ⟨by rfl, fun W hSw => ?_⟩) hHeld ?_
                  · obtain ⟨e1, e2⟩ := hSw
                    go_simp
                  simp only [List.setIfInBounds_toArray, List.set_cons_zero, List.set_cons_succ]
                  refine wpAnyH_ready (rs := [12]) (by kernel_rfl) (by simp) ?_
                  refine AllReadyH.cons rfl (fun K hK => ?_) ?_
                  · have k0 := cell_of_row _ z 0 _ _ (0, 0) HZ4.out
                    have f0 := fun j => frozen_of_row _ z j _ _ HZ4.out
                    simp at k0
                    go_simp
                    clear k0 f0
                    refine hK.out _ _ (HKS.out _ L5.out) (fun hHeld => ?_)
                    clear hK K
                    try simp only [List.setIfInBounds_toArray, List.set_cons_zero, List.set_cons_succ]
                    refine wpAnyH_done (by kernel_rfl) ?_ _
                    go_wp2_with fail
                    go_meet
                    exact HDONE.out
                  exact AllReadyH.nil
                exact AllReadyH.nil
              exact AllReadyH.nil
            exact AllReadyH.nil
          refine AllReadyH.cons rfl (fun K hK => ?_) ?_
          · refine step_append_run 21 rfl rfl _ _ 48 rfl (.slice (some ⟨wo.heap.size, 0, none⟩) 0 0) (.slice B m d) rfl rfl _ rfl HR1.out ?_
            refine hK.out _ _ (HKS.out _ LB.out) (fun hHeld => ?_)
            clear hK K
            try simp only [List.setIfInBounds_toArray, List.set_cons_zero, List.set_cons_succ]
            refine wpAnyH_ready (rs := [1, 9]) (by kernel_rfl) (by simp) ?_
            refine AllReadyH.cons rfl (fun K hK => ?_) ?_
            · have k := (HZO.out)
              have k1 := (HZB.out)
              have k2 := (HZC.out)
              go_simp
              clear k k1 k2
              refine hK.out _ _ (HKS.out _ LB.out) (fun hHeld => ?_)
              clear hK K
              try simp only [List.setIfInBounds_toArray, List.set_cons_zero, List.set_cons_succ]
              refine wpAnyH_ready (rs := [9]) (by kernel_rfl) (by simp) ?_
              refine AllReadyH.cons rfl (fun K hK => ?_) ?_
              · go_simp
                refine hK.out _ _ (HKS.out _ LC.out) (fun hHeld => ?_)
                clear hK K
                try simp only [List.setIfInBounds_toArray, List.set_cons_zero, List.set_cons_succ]
                refine wpAnyH_ready (rs := [10]) (by kernel_rfl) (by simp) ?_
                refine AllReadyH.cons rfl (fun K hK => ?_) ?_
                · refine step_append_run 23 rfl rfl _ _ 26 rfl (.slice A1 j c1) (.slice (some ⟨w2.heap.size, 0, none⟩) 1 1) rfl rfl _ rfl HR2.out ?_
                  refine hK.out _ _ (HKS.out _ L4.out) (fun hHeld => ?_)
                  clear hK K
                  try simp only [List.setIfInBounds_toArray, List.set_cons_zero, List.set_cons_succ]
                  refine take_at (i := 11) (oi := _) (v := .pointer (some ⟨z, 0, none⟩)) rfl rfl (by kernel_rfl) (by kernel_rfl) (by kernel_rfl) (fun _ _ _ h => h) (Or.inl ⟨by rfl, fun W hSw => ?_⟩) hHeld ?_
                  · obtain ⟨e1, e2⟩ := hSw
                    go_simp
                  simp only [List.setIfInBounds_toArray, List.set_cons_zero, List.set_cons_succ]
                  refine wpAnyH_ready (rs := [12]) (by kernel_rfl) (by simp) ?_
                  refine AllReadyH.cons rfl (fun K hK => ?_) ?_
                  · have k0 := cell_of_row _ z 0 _ _ (0, 0) HZ4.out
                    have f0 := fun j => frozen_of_row _ z j _ _ HZ4.out
                    simp at k0
                    go_simp
                    clear k0 f0
                    refine hK.out _ _ (HKS.out _ L5.out) (fun hHeld => ?_)
                    clear hK K
                    try simp only [List.setIfInBounds_toArray, List.set_cons_zero, List.set_cons_succ]
                    refine wpAnyH_done (by kernel_rfl) ?_ _
                    go_wp2_with fail
                    go_meet
                    exact HDONE.out
                  exact AllReadyH.nil
                exact AllReadyH.nil
              exact AllReadyH.nil
            refine AllReadyH.cons rfl (fun K hK => ?_) ?_
            · go_simp
              refine hK.out _ _ (HKS.out _ LC.out) (fun hHeld => ?_)
              clear hK K
              try simp only [List.setIfInBounds_toArray, List.set_cons_zero, List.set_cons_succ]
              refine wpAnyH_ready (rs := [1]) (by kernel_rfl) (by simp) ?_
              refine AllReadyH.cons rfl (fun K hK => ?_) ?_
              · have k := (HZO.out)
                have k1 := (HZB.out)
                have k2 := (HZC.out)
                go_simp
                clear k k1 k2
                refine hK.out _ _ (HKS.out _ LC.out) (fun hHeld => ?_)
                clear hK K
                try simp only [List.setIfInBounds_toArray, List.set_cons_zero, List.set_cons_succ]
                refine wpAnyH_ready (rs := [10]) (by kernel_rfl) (by simp) ?_
                refine AllReadyH.cons rfl (fun K hK => ?_) ?_
                · refine step_append_run 23 rfl rfl _ _ 26 rfl (.slice A1 j c1) (.slice (some ⟨w2.heap.size, 0, none⟩) 1 1) rfl rfl _ rfl HR2.out ?_
                  refine hK.out _ _ (HKS.out _ L4.out) (fun hHeld => ?_)
                  clear hK K
                  try simp only [List.setIfInBounds_toArray, List.set_cons_zero, List.set_cons_succ]
                  refine take_at (i := 11) (oi := _) (v := .pointer (some ⟨z, 0, none⟩)) rfl rfl (by kernel_rfl) (by kernel_rfl) (by kernel_rfl) (fun _ _ _ h => h) (Or.inl ⟨by rfl, fun W hSw => ?_⟩) hHeld ?_
                  · obtain ⟨e1, e2⟩ := hSw
                    go_simp
                  simp only [List.setIfInBounds_toArray, List.set_cons_zero, List.set_cons_succ]
                  refine wpAnyH_ready (rs := [12]) (by kernel_rfl) (by simp) ?_
                  refine AllReadyH.cons rfl (fun K hK => ?_) ?_
                  · have k0 := cell_of_row _ z 0 _ _ (0, 0) HZ4.out
                    have f0 := fun j => frozen_of_row _ z j _ _ HZ4.out
                    simp at k0
                    go_simp
                    clear k0 f0
                    refine hK.out _ _ (HKS.out _ L5.out) (fun hHeld => ?_)
                    clear hK K
                    try simp only [List.setIfInBounds_toArray, List.set_cons_zero, List.set_cons_succ]
                    refine wpAnyH_done (by kernel_rfl) ?_ _
                    go_wp2_with fail
                    go_meet
                    exact HDONE.out
                  exact AllReadyH.nil
                exact AllReadyH.nil
              exact AllReadyH.nil
            exact AllReadyH.nil
          exact AllReadyH.nil
        exact AllReadyH.nil
      case rest =>
        obtain ⟨B5', d5', X1', HC'⟩ := hcut
        clear HC HP HR1 HR2 HZO HZD HZA HZB HZC HZ4 LD LA LB LC L4 L5 HKS l0
        obtain ⟨wo, rfl⟩ : ∃ wo : World, wo = wc := ⟨_, rfl⟩
        have hbz := HC'.out.bel
        have hl2 : ((H.map (·.os)).take j).length = j := by rw [List.length_take, List.length_map, ← HN.out]; omega
        have hsz : ∀ wx, Below z W wx → w.heap.size ≤ wx.heap.size := fun wx h => by have := h.size; have := HWS.out; omega
        obtain ⟨B3, d3, w2, B5, d5, w4, hr1, hr2, ⟨lD, lA, lB, lC⟩, l4, hz4, hput⟩ := HC'.out.go2 (HLO.out.keep (fun b hb => HWK.out wo hbz b (HS.out b hb)) (fun _ h => h)) (fun b hb => Nat.lt_of_lt_of_le (HS.out b hb) (hsz wo hbz)) HM2.out.symm (by omega) hl2 hj3
        have HR1 := Lib.hid hr1
        have HR2 := Lib.hid hr2
        have hzo := HC'.out.row
        have hzl := heap_lt hzo
        have kz0 := cell_of_row _ z 1 _ _ (0, 0) hzo
        simp at kz0
        have HZO := Lib.hid kz0
        have HZD := Lib.hid ((lD.cell (p := ⟨z, 1, none⟩) hzl).trans kz0)
        have HZA := Lib.hid ((lA.cell (p := ⟨z, 1, none⟩) hzl).trans kz0)
        have HZB := Lib.hid ((lB.cell (p := ⟨z, 1, none⟩) hzl).trans kz0)
        have HZC := Lib.hid ((lC.cell (p := ⟨z, 1, none⟩) hzl).trans kz0)
        have hle : z ≤ wo.heap.size := by omega
        have LD := Lib.hid (hbz.trans (lD.mono hle))
        have LA := Lib.hid (hbz.trans (lA.mono hle))
        have LB := Lib.hid (hbz.trans (lB.mono hle))
        have LC := Lib.hid (hbz.trans (lC.mono hle))
        have L4 := Lib.hid l4
        have L5 := Lib.hid (l4.trans (setCell_below w4 z 1 (.slice B5 (j + 1) d5)))
        have HZ4 := Lib.hid hz4
        rw [← take_os H htj] at hput
        have HP := Lib.hid hput
        have HKS := HK2
        clear hr1 hr2 lD lA lB lC l4 hz4 hput hzo kz0 hsz hbz hl2
        go_upto_region 6 with fail
        refine wp_region_held_drew (S := fun W => W.cell? ⟨x0, 1, none⟩ = some (.slice (some ⟨b2, off2, none⟩) n c') ∧ W.cell? ⟨b2, off2 + j, none⟩ = some (.slice B2 m2 d2)) (by kernel_rfl) (HKS.out _ LD.out) (fun hHeld => ?_)
        refine take_at (i := 0) (oi := _) (v := .pointer (some ⟨z, 1, none⟩)) rfl rfl (by kernel_rfl) (by kernel_rfl) (by kernel_rfl) (fun _ _ _ h => h) (Or.inl ⟨by rfl, fun W hSw => ?_⟩) hHeld ?_
        · obtain ⟨e1, e2⟩ := hSw
          go_simp
        simp only [List.setIfInBounds_toArray, List.set_cons_zero, List.set_cons_succ]
        refine take_at (i := 3) (oi := _) (v := .pointer (some ⟨x0, 1, none⟩)) rfl rfl (by kernel_rfl) (by kernel_rfl) (by kernel_rfl) (fun _ _ _ h => h) (Or.inl ⟨by rfl, fun W hSw => ?_⟩) hHeld ?_
        · obtain ⟨e1, e2⟩ := hSw
          go_simp
        simp only [List.setIfInBounds_toArray, List.set_cons_zero, List.set_cons_succ]
        refine take_at (i := 4) (oi := _) (v := .slice (some ⟨b2, off2, none⟩) n c') rfl rfl (by kernel_rfl) (by kernel_rfl) (by kernel_rfl) (fun _ _ _ h => h) (Or.inl ⟨by rfl, fun W hSw => ?_⟩) hHeld ?_
        · obtain ⟨e1, e2⟩ := hSw
          go_simp
        simp only [List.setIfInBounds_toArray, List.set_cons_zero, List.set_cons_succ]
        refine take_at (i := 5) (oi := _) (v := .int .i64 (j : Nat)) rfl rfl (by kernel_rfl) (by kernel_rfl) (by kernel_rfl) (fun _ _ _ h => h) (Or.inl ⟨by rfl, fun W hSw => ?_⟩) hHeld ?_
        · obtain ⟨e1, e2⟩ := hSw
          go_simp
        simp only [List.setIfInBounds_toArray, List.set_cons_zero, List.set_cons_succ]
        refine take_at (i := 6) (oi := _) (v := .pointer (some ⟨b2, off2 + j, none⟩)) rfl rfl (by kernel_rfl) (by kernel_rfl) (by kernel_rfl) (fun _ _ _ h => h) (Or.inl ⟨by rfl, fun W hSw => ?_⟩) hHeld ?_
        · obtain ⟨e1, e2⟩ := hSw
          go_simp
        simp only [List.setIfInBounds_toArray, List.set_cons_zero, List.set_cons_succ]
        refine take_at (i := 7) (oi := _) (v := .slice B2 m2 d2) rfl rfl (by kernel_rfl) (by kernel_rfl) (by kernel_rfl) (fun _ _ _ h => h) (Or.inl ⟨by rfl, fun W hSw => ?_⟩) hHeld ?_
        · obtain ⟨e1, e2⟩ := hSw
          go_simp
        simp only [List.setIfInBounds_toArray, List.set_cons_zero, List.set_cons_succ]
        refine wpAnyH_ready (rs := [1, 2]) (by kernel_rfl) (by simp) ?_
        refine AllReadyH.cons rfl (fun K hK => ?_) ?_
        · have k := (HZO.out)
          have k1 := (HZB.out)
          have k2 := (HZC.out)
          go_simp
          clear k k1 k2
          refine hK.out _ _ (HKS.out _ LD.out) (fun hHeld => ?_)
          clear hK K
          try simp only [List.setIfInBounds_toArray, List.set_cons_zero, List.set_cons_succ]
          refine wpAnyH_ready (rs := [2]) (by kernel_rfl) (by simp) ?_
          refine AllReadyH.cons rfl (fun K hK => ?_) ?_
          · go_simp
            refine hK.out _ _ (HKS.out _ LA.out) (fun hHeld => ?_)
            clear hK K
            try simp only [List.setIfInBounds_toArray, List.set_cons_zero, List.set_cons_succ]
            refine wpAnyH_ready (rs := [8]) (by kernel_rfl) (by simp) ?_
            refine AllReadyH.cons rfl (fun K hK => ?_) ?_
            · refine step_append_run 33 rfl rfl _ _ 49 rfl (.slice (some ⟨wo.heap.size, 0, none⟩) 0 0) (.slice B2 m2 d2) rfl rfl _ rfl HR1.out ?_
              refine hK.out _ _ (HKS.out _ LB.out) (fun hHeld => ?_)
              clear hK K
              try simp only [List.setIfInBounds_toArray, List.set_cons_zero, List.set_cons_succ]
              refine wpAnyH_ready (rs := [9]) (by kernel_rfl) (by simp) ?_
              refine AllReadyH.cons rfl (fun K hK => ?_) ?_
              · go_simp
                refine hK.out _ _ (HKS.out _ LC.out) (fun hHeld => ?_)
                clear hK K
                try simp only [List.setIfInBounds_toArray, List.set_cons_zero, List.set_cons_succ]
                refine wpAnyH_ready (rs := [10]) (by kernel_rfl) (by simp) ?_
                refine AllReadyH.cons rfl (fun K hK => ?_) ?_
                · refine step_append_run 35 rfl rfl _ _ 27 rfl (.slice A2 j c2) (.slice (some ⟨w2.heap.size, 0, none⟩) 1 1) rfl rfl _ rfl HR2.out ?_
                  refine hK.out _ _ (HKS.out _ L4.out) (fun hHeld => ?_)
                  clear hK K
                  try simp only [List.setIfInBounds_toArray, List.set_cons_zero, List.set_cons_succ]
                  refine take_at (i := 11) (oi := _) (v := .pointer (some ⟨z, 1, none⟩)) rfl rfl (by kernel_rfl) (by kernel_rfl) (by kernel_rfl) (fun _ _ _ h => h) (Or.inl ⟨by rfl, fun W hSw => ?_⟩) hHeld ?_
                  · obtain ⟨e1, e2⟩ := hSw
                    go_simp
                  simp only [List.setIfInBounds_toArray, List.set_cons_zero, List.set_cons_succ]
                  refine wpAnyH_ready (rs := [12]) (by kernel_rfl) (by simp) ?_
                  refine AllReadyH.cons rfl (fun K hK => ?_) ?_
                  · have k0 := cell_of_row _ z 1 _ _ (0, 0) HZ4.out
                    have f0 := fun j => frozen_of_row _ z j _ _ HZ4.out
                    simp at k0
                    go_simp
                    clear k0 f0
                    refine hK.out _ _ (HKS.out _ L5.out) (fun hHeld => ?_)
                    clear hK K
                    try simp only [List.setIfInBounds_toArray, List.set_cons_zero, List.set_cons_succ]
                    refine wpAnyH_done (by kernel_rfl) ?_ _
                    go_wp2
                    go_roundw
                    case rel => exact ⟨j + 1, _, _, _, _, by omega, by go_num, HP⟩
                    case measure => simp [intOf]; omega
                  exact AllReadyH.nil
                exact AllReadyH.nil
              exact AllReadyH.nil
            exact AllReadyH.nil
          exact AllReadyH.nil
        refine AllReadyH.cons rfl (fun K hK => ?_) ?_
        · go_simp
          refine hK.out _ _ (HKS.out _ LA.out) (fun hHeld => ?_)
          clear hK K
          try simp only [List.setIfInBounds_toArray, List.set_cons_zero, List.set_cons_succ]
          refine wpAnyH_ready (rs := [1, 8]) (by kernel_rfl) (by simp) ?_
          refine AllReadyH.cons rfl (fun K hK => ?_) ?_
          · have k := (HZO.out)
            have k1 := (HZB.out)
            have k2 := (HZC.out)
            go_simp
            clear k k1 k2
            refine hK.out _ _ (HKS.out _ LA.out) (fun hHeld => ?_)
            clear hK K
            try simp only [List.setIfInBounds_toArray, List.set_cons_zero, List.set_cons_succ]
            refine wpAnyH_ready (rs := [8]) (by kernel_rfl) (by simp) ?_
            refine AllReadyH.cons rfl (fun K hK => ?_) ?_
            · refine step_append_run 33 rfl rfl _ _ 49 rfl (.slice (some ⟨wo.heap.size, 0, none⟩) 0 0) (.slice B2 m2 d2) rfl rfl _ rfl HR1.out ?_
              refine hK.out _ _ (HKS.out _ LB.out) (fun hHeld => ?_)
              clear hK K
              try simp only [List.setIfInBounds_toArray, List.set_cons_zero, List.set_cons_succ]
              refine wpAnyH_ready (rs := [9]) (by kernel_rfl) (by simp) ?_
              refine AllReadyH.cons rfl (fun K hK => ?_) ?_
              · go_simp
                refine hK.out _ _ (HKS.out _ LC.out) (fun hHeld => ?_)
                clear hK K
                try simp only [List.setIfInBounds_toArray, List.set_cons_zero, List.set_cons_succ]
                refine wpAnyH_ready (rs := [10]) (by kernel_rfl) (by simp) ?_
                refine AllReadyH.cons rfl (fun K hK => ?_) ?_
                · refine step_append_run 35 rfl rfl _ _ 27 rfl (.slice A2 j c2) (.slice (some ⟨w2.heap.size, 0, none⟩) 1 1) rfl rfl _ rfl HR2.out ?_
                  refine hK.out _ _ (HKS.out _ L4.out) (fun hHeld => ?_)
                  clear hK K
                  try simp only [List.setIfInBounds_toArray, List.set_cons_zero, List.set_cons_succ]
                  refine take_at (i := 11) (oi := _) (v := .pointer (some ⟨z, 1, none⟩)) rfl rfl (by kernel_rfl) (by kernel_rfl) (by kernel_rfl) (fun _ _ _ h => h) (Or.inl ⟨by rfl, fun W hSw => ?_⟩) hHeld ?_
                  · obtain ⟨e1, e2⟩ := hSw
                    go_simp
                  simp only [List.setIfInBounds_toArray, List.set_cons_zero, List.set_cons_succ]
                  refine wpAnyH_ready (rs := [12]) (by kernel_rfl) (by simp) ?_
                  refine AllReadyH.cons rfl (fun K hK => ?_) ?_
                  · have k0 := cell_of_row _ z 1 _ _ (0, 0) HZ4.out
                    have f0 := fun j => frozen_of_row _ z j _ _ HZ4.out
                    simp at k0
                    go_simp
                    clear k0 f0
                    refine hK.out _ _ (HKS.out _ L5.out) (fun hHeld => ?_)
                    clear hK K
                    try simp only [List.setIfInBounds_toArray, List.set_cons_zero, List.set_cons_succ]
                    refine wpAnyH_done (by kernel_rfl) ?_ _
                    go_wp2
                    go_roundw
                    case rel => exact ⟨j + 1, _, _, _, _, by omega, by go_num, HP⟩
                    case measure => simp [intOf]; omega
                  exact AllReadyH.nil
                exact AllReadyH.nil
              exact AllReadyH.nil
            exact AllReadyH.nil
          refine AllReadyH.cons rfl (fun K hK => ?_) ?_
          · refine step_append_run 33 rfl rfl _ _ 49 rfl (.slice (some ⟨wo.heap.size, 0, none⟩) 0 0) (.slice B2 m2 d2) rfl rfl _ rfl HR1.out ?_
            refine hK.out _ _ (HKS.out _ LB.out) (fun hHeld => ?_)
            clear hK K
            try simp only [List.setIfInBounds_toArray, List.set_cons_zero, List.set_cons_succ]
            refine wpAnyH_ready (rs := [1, 9]) (by kernel_rfl) (by simp) ?_
            refine AllReadyH.cons rfl (fun K hK => ?_) ?_
            · have k := (HZO.out)
              have k1 := (HZB.out)
              have k2 := (HZC.out)
              go_simp
              clear k k1 k2
              refine hK.out _ _ (HKS.out _ LB.out) (fun hHeld => ?_)
              clear hK K
              try simp only [List.setIfInBounds_toArray, List.set_cons_zero, List.set_cons_succ]
              refine wpAnyH_ready (rs := [9]) (by kernel_rfl) (by simp) ?_
              refine AllReadyH.cons rfl (fun K hK => ?_) ?_
              · go_simp
                refine hK.out _ _ (HKS.out _ LC.out) (fun hHeld => ?_)
                clear hK K
                try simp only [List.setIfInBounds_toArray, List.set_cons_zero, List.set_cons_succ]
                refine wpAnyH_ready (rs := [10]) (by kernel_rfl) (by simp) ?_
                refine AllReadyH.cons rfl (fun K hK => ?_) ?_
                · refine step_append_run 35 rfl rfl _ _ 27 rfl (.slice A2 j c2) (.slice (some ⟨w2.heap.size, 0, none⟩) 1 1) rfl rfl _ rfl HR2.out ?_
                  refine hK.out _ _ (HKS.out _ L4.out) (fun hHeld => ?_)
                  clear hK K
                  try simp only [List.setIfInBounds_toArray, List.set_cons_zero, List.set_cons_succ]
                  refine take_at (i := 11) (oi := _) (v := .pointer (some ⟨z, 1, none⟩)) rfl rfl (by kernel_rfl) (by kernel_rfl) (by kernel_rfl) (fun _ _ _ h => h) (Or.inl ⟨by rfl, fun W hSw => ?_⟩) hHeld ?_
                  · obtain ⟨e1, e2⟩ := hSw
                    go_simp
                  simp only [List.setIfInBounds_toArray, List.set_cons_zero, List.set_cons_succ]
                  refine wpAnyH_ready (rs := [12]) (by kernel_rfl) (by simp) ?_
                  refine AllReadyH.cons rfl (fun K hK => ?_) ?_
                  · have k0 := cell_of_row _ z 1 _ _ (0, 0) HZ4.out
                    have f0 := fun j => frozen_of_row _ z j _ _ HZ4.out
                    simp at k0
                    go_simp
                    clear k0 f0
                    refine hK.out _ _ (HKS.out _ L5.out) (fun hHeld => ?_)
                    clear hK K
                    try simp only [List.setIfInBounds_toArray, List.set_cons_zero, List.set_cons_succ]
                    refine wpAnyH_done (by kernel_rfl) ?_ _
                    go_wp2
                    go_roundw
                    case rel => exact ⟨j + 1, _, _, _, _, by omega, by go_num, HP⟩
                    case measure => simp [intOf]; omega
                  exact AllReadyH.nil
                exact AllReadyH.nil
              exact AllReadyH.nil
            refine AllReadyH.cons rfl (fun K hK => ?_) ?_
            · go_simp
              refine hK.out _ _ (HKS.out _ LC.out) (fun hHeld => ?_)
              clear hK K
              try simp only [List.setIfInBounds_toArray, List.set_cons_zero, List.set_cons_succ]
              refine wpAnyH_ready (rs := [1]) (by kernel_rfl) (by simp) ?_
              refine AllReadyH.cons rfl (fun K hK => ?_) ?_
              · have k := (HZO.out)
                have k1 := (HZB.out)
                have k2 := (HZC.out)
                go_simp
                clear k k1 k2
                refine hK.out _ _ (HKS.out _ LC.out) (fun hHeld => ?_)
                clear hK K
                try simp only [List.setIfInBounds_toArray, List.set_cons_zero, List.set_cons_succ]
                refine wpAnyH_ready (rs := [10]) (by kernel_rfl) (by simp) ?_
                refine AllReadyH.cons rfl (fun K hK => ?_) ?_
                · refine step_append_run 35 rfl rfl _ _ 27 rfl (.slice A2 j c2) (.slice (some ⟨w2.heap.size, 0, none⟩) 1 1) rfl rfl _ rfl HR2.out ?_
                  refine hK.out _ _ (HKS.out _ L4.out) (fun hHeld => ?_)
                  clear hK K
                  try simp only [List.setIfInBounds_toArray, List.set_cons_zero, List.set_cons_succ]
                  refine take_at (i := 11) (oi := _) (v := .pointer (some ⟨z, 1, none⟩)) rfl rfl (by kernel_rfl) (by kernel_rfl) (by kernel_rfl) (fun _ _ _ h => h) (Or.inl ⟨by rfl, fun W hSw => ?_⟩) hHeld ?_
                  · obtain ⟨e1, e2⟩ := hSw
                    go_simp
                  simp only [List.setIfInBounds_toArray, List.set_cons_zero, List.set_cons_succ]
                  refine wpAnyH_ready (rs := [12]) (by kernel_rfl) (by simp) ?_
                  refine AllReadyH.cons rfl (fun K hK => ?_) ?_
                  · have k0 := cell_of_row _ z 1 _ _ (0, 0) HZ4.out
                    have f0 := fun j => frozen_of_row _ z j _ _ HZ4.out
                    simp at k0
                    go_simp
                    clear k0 f0
                    refine hK.out _ _ (HKS.out _ L5.out) (fun hHeld => ?_)
                    clear hK K
                    try simp only [List.setIfInBounds_toArray, List.set_cons_zero, List.set_cons_succ]
                    refine wpAnyH_done (by kernel_rfl) ?_ _
                    go_wp2
                    go_roundw
                    case rel => exact ⟨j + 1, _, _, _, _, by omega, by go_num, HP⟩
                    case measure => simp [intOf]; omega
                  exact AllReadyH.nil
                exact AllReadyH.nil
              exact AllReadyH.nil
            exact AllReadyH.nil
          exact AllReadyH.nil
        exact AllReadyH.nil
    · obtain rfl : j = n := by omega
      have l0 : wo.cell? ⟨x0, 0, none⟩ = some (.slice A j c) := by rw [cell_of_row _ _ 0 _ _ (0, 0) (HI0.out wo hbz)]; rfl
      have hzo := HC.out.row
      have kz0 := cell_of_row _ z 0 _ _ (0, 0) hzo
      have kz1 := cell_of_row _ z 1 _ _ (0, 0) hzo
      simp at kz0 kz1
      have ho : wo.heap[x0 + 1]? = some (.cells #[nilV, nilV] 29 (0, 0)) := (hbz.block (x0 + 1) (by rw [HX0.out, HZE.out]; omega)).trans (by rw [HX0.out]; exact HQ1.out)
      have o0 := cell_of_row wo (x0 + 1) 0 _ _ (0, 0) ho
      have o1 := cell_of_row wo (x0 + 1) 1 _ _ (0, 0) ho
      simp at o0 o1
      have fz := fun j => frozen_of_row wo (x0 + 1) j _ _ ho
      have hbw : Below w.heap.size w wo := HB.out.trans (hbz.mono (by rw [HZE.out]; omega))
      have HEND := Lib.hid (fun (V : World) (hV : (wo.setCell ⟨x0 + 1, 0, none⟩ (.slice A1 j c1)).setCell ⟨x0 + 1, 1, none⟩ (.slice A2 j c2) = V) => (by
        obtain ⟨g1, g2, g3⟩ := two_fin ho (by rw [HX0.out]; omega) hbw _ _ hV
        have hk : ∀ b, base ≤ b → V.heap[b]? = wo.heap[b]? := fun b hb => by
          have h2 : b ≠ x0 + 1 := by have := HX0.out; have := HBE.out; omega
          subst hV
          exact (Below.heap_setCell _ _ _ b h2).trans (Below.heap_setCell _ _ _ b h2)
        have hb' : w.heap.size ≤ base := by rw [HBE.out]; omega
        have ha := (HC.out.a.keep (fun b hb => hk b (HC.out.a.lt hb).1)).mono hb'
        have hc := (HC.out.b.keep (fun b hb => hk b (HC.out.b.lt hb).1)).mono hb'
        rw [List.take_of_length_le (by rw [List.length_map, ← HN.out]; exact Nat.le_refl _)] at ha hc
        exact ⟨⟨_, _, X1, X2, rfl, ⟨ha, hc, HC.out.ap⟩, g1⟩, g2, g3⟩ : RCopy w H (.returned (.agg #[.slice A1 j c1, .slice A2 j c2])) V ∧ V.cell? ⟨x0 + 1, 0, none⟩ = some (.slice A1 j c1) ∧ V.cell? ⟨x0 + 1, 1, none⟩ = some (.slice A2 j c2)))
      clear hzo ho hbw hbz hl1 hl2
      go_wp2
      generalize hV : (wo.setCell ⟨x0 + 1, 0, none⟩ (.slice A1 j c1)).setCell ⟨x0 + 1, 1, none⟩ (.slice A2 j c2) = V
      obtain ⟨e1, e2, e3⟩ := HEND.out V hV
      refine bodyPost_ret (v := .agg #[.slice A1 j c1, .slice A2 j c2]) ?_ rfl e1
      simp [results, Try.results23, go_sem, e2, e3]

end Go.Proofs.Ytnplekfpncjnpaa
