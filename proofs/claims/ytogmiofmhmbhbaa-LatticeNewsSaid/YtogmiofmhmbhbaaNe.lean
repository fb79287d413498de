/- The walk of the document's turned. -/
import Derived.Test.YtogmiofmhmbhbaaNd
namespace Go.Proofs.Ytogmiofmhmbhbaa
open Go.RowKit

def boolsV (bs : List Bool) : List Value := bs.map Value.bool
def OwnBools (w : World) (base : Nat) (v : Value) (bs : List Bool) : Prop := w.ownsRow base 4 1 v bs.length (boolsV bs)
theorem OwnBools.alloc {w : World} {base : Nat} {v : Value} {bs : List Bool} (h : OwnBools w base v bs) (o : Obj) : OwnBools (w.alloc o) base v bs := World.ownsRow.alloc h o
theorem wpList_append_bool {ops : Array Oper} {rest : List Oper} {o : Oper} {a : Act} {w : World} {Q : Exit → Act → World → Prop} (hgd : o.guard = none) (s x : Operand)
    (ho : o.op = .call { callee := .builtin .append, args := #[s, x], argTypes := #[59, 59] })
    (base : Nat) (v : Value) (bs : List Bool) (hs : a.eval s = v) (hown : OwnBools w base v bs) (g c : Nat) (z : Bool) (hx : a.eval x = .slice (some ⟨g, 0, none⟩) 1 c)
    (hnews : ∀ j u, ([Value.bool z] : List Value)[j]? = some u → w.cell? ((⟨g, 0, none⟩ : Addr).add j) = some u) (hb : bs.length ≤ 100000) (hbase : base ≤ w.heap.size)
    (h : ∀ v' w', OwnBools w' base v' (bs ++ [z]) → w.grownBy w' v.ownBlock → wpList Try.prog ops Q rest (a.put o.dst v') w') : wpList Try.prog ops Q (o :: rest) a w := by
  obtain ⟨i0, hi, hz0, hz1, hz2⟩ := info_parts info_bool
  refine wpList_append_own _ hgd s x 59 ho base 4 i0 (.bool false) 1 1 Try.underlying59 hi hz0 hz1 hz2 rfl (by decide) v bs.length (boolsV bs) hs hown ⟨g, 0, none⟩ 1 c [.bool z] hx rfl
    hnews (by intro u hu; simp at hu; subst hu; rfl) (by unfold maxLen; omega) (by omega) hbase fun v' w' hown' hgr _ => h v' w' ?_ hgr
  unfold OwnBools
  rw [List.length_append, boolsV, List.map_append]
  exact hown'

/-- column i of the table, as far as row k -/
def colTo (f : Tab) (i k : Nat) : List Bool := (List.range k).map fun j => f j i
theorem colTo_succ (f : Tab) (i k : Nat) : colTo f i (k + 1) = colTo f i k ++ [f k i] := by
  unfold colTo; rw [List.range_succ, List.map_append]; rfl
theorem colTo_len (f : Tab) (i k : Nat) : (colTo f i k).length = k := by simp [colTo]

def rowC (G C : Nat → Nat) (n i : Nat) : Value := .slice (some ⟨G i, 0, none⟩) n (C i)
def rowsC (G C : Nat → Nat) (n t : Nat) : List Value := (List.range t).map (rowC G C n)
theorem rowsC_succ (G C : Nat → Nat) (n t : Nat) : rowsC G C n (t + 1) = rowsC G C n t ++ [rowC G C n t] := by
  unfold rowsC; rw [List.range_succ, List.map_append]; rfl
theorem rowsC_congr (G C G' C' : Nat → Nat) (n t : Nat) (h : ∀ i, i < t → G i = G' i ∧ C i = C' i) : rowsC G C n t = rowsC G' C' n t := by
  unfold rowsC
  apply List.map_congr_left
  intro i hi
  unfold rowC
  rw [(h i (List.mem_range.1 hi)).1, (h i (List.mem_range.1 hi)).2]
theorem rowsC_get (G C : Nat → Nat) (n t i : Nat) (h : i < t) : (rowsC G C n t)[i]? = some (rowC G C n i) := by simp [rowsC, h]

/-- the first t columns, each a row of its own -/
def TuAt (w : World) (base n t : Nat) (v : Value) (f : Tab) (G C : Nat → Nat) : Prop :=
  w.ownsRow base 59 1 v t (rowsC G C n t) ∧ ∀ i, i < t → ∃ cur, w.heap[G i]? = some (.cells cur 4 (0, 0)) ∧ ∀ j, j < n → cur[j]? = some (.bool (f j i))

def TurnedPost (w : World) (n : Nat) (f : Tab) (e : Ending) (w' : World) : Prop :=
  ∃ v, e = .returned (.agg #[v]) ∧ MatAt w' w'.heap.size n v (fun a b => f b a) ∧ Below w.heap.size w w'

theorem own_below {w w' : World} {base : Nat} {e : TypeId} {size n : Nat} {v : Value} {xs : List Value} (h : w.ownsRow base e size v n xs) (hb : Below w.heap.size w w') : w'.ownsRow base e size v n xs := by
  refine ⟨h.1, h.2.imp id ?_⟩
  rintro ⟨g, cap, cur, hv, hg, hgg, rest⟩
  exact ⟨g, cap, cur, hv, hg, (hb.block g (Array.getElem?_eq_some_iff.1 hgg).1).trans hgg, rest⟩
theorem own_not {w : World} {base : Nat} {e e' : TypeId} {size n g : Nat} {v : Value} {xs : List Value} {cur : Array Value} (h : w.ownsRow base e size v n xs) (hg : w.heap[g]? = some (.cells cur e' (0, 0))) (hne : e ≠ e') : v.ownBlock ≠ some g := by
  intro hv
  rcases h.2 with ⟨rfl, _⟩ | ⟨g', cap, cur', rfl, _, hg', _⟩
  · cases hv
  · have e2 : some g' = some g := hv
    injection e2 with e2
    rw [e2, hg] at hg'
    injection hg' with hg'
    injection hg' with _ hg'
    exact hne hg'.symm

set_option maxRecDepth 100000 in
set_option maxHeartbeats 4000000 in
theorem turnedR_any (w : World) (n : Nat) (v : Value) (f : Tab) (hM : MatAt w w.heap.size n v f) (h1 : 1 ≤ n) (h8 : n ≤ 8) :
    Calls Try.prog 36 #[.agg #[v]] w (TurnedPost w n f) := by
  obtain ⟨go, co, G0, C0, rfl, hgo, hM⟩ := hM
  have HMA := Lib.hid hM
  clear hM
  obtain ⟨w0, hw0⟩ : ∃ w0, w0 = ((w.alloc (.cells #[.slice (some ⟨go, 0, none⟩) n co] 31)).alloc (.cells #[.slice none 0 0] 31)).alloc (.cells #[.slice none 0 0] 31) := ⟨_, rfl⟩
  obtain ⟨g, hg⟩ : ∃ g, g = w.heap.size := ⟨_, rfl⟩
  have hb0 : Below g w w0 := by rw [hw0, hg]; exact (((Below.refl _ _).alloc (Nat.le_refl _) _).alloc (by simp) _).alloc (by simp; omega) _
  have hs0 : g + 3 ≤ w0.heap.size := by rw [hw0, hg]; simp
  have e1 : w0.heap[g]? = some (.cells #[.slice (some ⟨go, 0, none⟩) n co] 31 (0, 0)) := by
    rw [hw0, hg, Below.heap_alloc _ _ _ (by simp; omega), heap_alloc2_old]
  have e2 : w0.heap[g + 1]? = some (.cells #[.slice none 0 0] 31 (0, 0)) := by
    rw [hw0, hg, Below.heap_alloc _ _ _ (by simp), heap_alloc2_new]
  have e3 : w0.heap[g + 2]? = some (.cells #[.slice none 0 0] 31 (0, 0)) := by
    have := heap_alloc_new ((w.alloc (.cells #[.slice (some ⟨go, 0, none⟩) n co] 31)).alloc (.cells #[.slice none 0 0] 31)) (.cells #[.slice none 0 0] 31)
    rw [hw0, hg]
    simpa using this
  have hT0 : TuAt w0 (g + 3) n 0 (.slice none 0 0) f id id := ⟨World.ownsRow_nil _ _ _ _, fun i hi => absurd hi (by omega)⟩
  have HW0 := Lib.hid hw0
  have HG := Lib.hid hg
  have hgg : go < g := by omega
  clear hw0 hg hgo
  go_enter Try.func36, Try.ntmps36
  go_wp2
  rw [← HW0.out, ← HG.out]
  go_loopw [4] (fun i wr => ∃ t : Nat, t ≤ n ∧ i = .int .i64 t ∧ Hid (∃ v G C, wr.heap[g + 2]? = some (.cells #[v] 31 (0, 0)) ∧ TuAt wr (g + 3) n t v f G C) ∧
      Hid (wr.heap[g]? = some (.cells #[.slice (some ⟨go, 0, none⟩) n co] 31 (0, 0))) ∧ Hid (wr.heap[g + 1]? = some (.cells #[.slice none 0 0] 31 (0, 0))) ∧
      Below g w wr ∧ g + 3 ≤ wr.heap.size) (fun i _ => n - (intOf i).toNat)
  case atStart => exact ⟨0, Nat.zero_le _, rfl, ⟨_, _, _, e3, hT0⟩, e1, e2, hb0, hs0⟩
  case round =>
    obtain ⟨t, ht, rfl, hT, hh1, hh2, hb, hs⟩ := hrel
    obtain ⟨v, G, C, h3, hown, hin⟩ := hT.out
    obtain ⟨wo, rfl⟩ : ∃ wo : World, wo = wr := ⟨_, rfl⟩
    have q1 := cell_of_row wo g 0 _ _ (0, 0) hh1.out
    have HM2 : Hid (∀ i, i < n → G0 i < g ∧ wo.cell? ⟨go, i, none⟩ = some (.slice (some ⟨G0 i, 0, none⟩) n (C0 i)) ∧ ∀ j, j < n → wo.cell? ⟨G0 i, j, none⟩ = some (.bool (f i j))) := Lib.hid (fun i hi => by
      obtain ⟨x1, x2, x3⟩ := HMA.out i hi
      have x1' : G0 i < g := by have := HG.out; omega
      exact ⟨x1', (hb.cell (p := ⟨go, i, none⟩) hgg).trans x2, fun j hj => (hb.cell (p := ⟨G0 i, j, none⟩) x1').trans (x3 j hj)⟩)
    have HOWN := Lib.hid hown
    have HIN := Lib.hid hin
    have H3 := Lib.hid h3
    clear hT hown hin h3
    simp at q1
    by_cases hlt : t < n
    · have hB0 : OwnBools (wo.alloc (.cells #[] 4)) wo.heap.size (.slice (some ⟨wo.heap.size, 0, none⟩) 0 0) (colTo f t 0) :=
        World.ownsRow_lit (e := 4) (size := 1) wo #[] 0 (Nat.le_refl _) (by unfold maxLen; omega) rfl
      have hbo : Below wo.heap.size wo (wo.alloc (.cells #[] 4)) := (Below.refl _ _).alloc (Nat.le_refl _) _
      go_wp2
      clear q1
      go_loopw [6, 5] (fun i s5 wl => ∃ k : Nat, k ≤ n ∧ i = .int .i64 k ∧ OwnBools wl wo.heap.size s5 (colTo f t k) ∧ Below wo.heap.size wo wl) (fun i _ _ => n - (intOf i).toNat)
      case atStart => exact ⟨0, Nat.zero_le _, rfl, hB0, hbo⟩
      case round =>
        obtain ⟨k, hk, rfl, hrow, hbl⟩ := hrel
        have q1 := cell_of_row wr g 0 _ _ (0, 0) ((hbl.block g (by omega)).trans hh1.out)
        simp at q1
        have hbs := hbl.size
        by_cases hltk : k < n
        · have hx := HM2.out k hltk
          have q2 := (hbl.cell (p := ⟨go, k, none⟩) (by simp; omega)).trans hx.2.1
          have q3 := (hbl.cell (p := ⟨G0 k, t, none⟩) (by simp; omega)).trans (hx.2.2 t hlt)
          have HS := Lib.hid (colTo_succ f t k)
          have hlen : (colTo f t k).length ≤ 100000 := by rw [colTo_len]; omega
          obtain ⟨z, hz⟩ : ∃ z, z = f k t := ⟨_, rfl⟩
          obtain ⟨bs, hbs2⟩ : ∃ bs, bs = colTo f t k := ⟨_, rfl⟩
          rw [← hz] at q3 HS
          rw [← hbs2] at hrow hlen HS
          have HR := Lib.hid hrow
          clear hx hz hbs2 hrow
          go_wp2_with (at_builtin; refine wpList_append_bool rfl _ _ rfl wo.heap.size _ bs rfl (HR.out.alloc _) wr.heap.size 1 z rfl (one_of rfl) hlen (by simp; omega) ?_; intro v' w3 hown3 hgr)
          go_roundw
          case rel => exact ⟨k + 1, by omega, by go_num, by rw [HS.out]; exact hown3, (hbl.alloc (by omega) _).grown hgr (by simp; omega) (fun g hg => (HR.out.lt g hg).1)⟩
          case measure => simp [intOf]; omega
        · obtain rfl : n = k := by omega
          obtain ⟨gr, cr, rfl, hgr1, hgr2⟩ := hrow.form (by rw [colTo_len]; omega)
          have hrow2 : wr.ownsRow wo.heap.size 4 1 (.slice (some ⟨gr, 0, none⟩) n cr) n (boolsV (colTo f t n)) := by
            have h := hrow
            unfold OwnBools at h
            rw [colTo_len] at h
            exact h
          obtain ⟨cur, hcur⟩ := own_block hrow2
          have hcu : Hid (∀ j, j < n → cur[j]? = some (.bool (f j t))) := Lib.hid (fun j hj => by
            have h5 := hrow2.cellAt j (by omega)
            rw [cell_of_row wr gr j _ _ (0, 0) hcur] at h5
            rw [h5]; simp [boolsV, colTo, hj])
          have HCUR := Lib.hid hcur
          have h3r := (hbl.block (g + 2) (by omega)).trans H3.out
          have q3 := cell_of_row wr (g + 2) 0 _ _ (0, 0) h3r
          simp at q3
          have HOWN2 := Lib.hid (own_below HOWN.out hbl)
          have H3R := Lib.hid h3r
          have hgr3 : wo.heap.size ≤ gr := hgr1
          rw [colTo_len]
          clear hrow hrow2 hcur h3r hgr1
          go_wp2_with (at_builtin; refine wpList_append_row rfl _ _ rfl (g + 3) v t (rowsC G C n t) rfl (HOWN2.out.alloc _) wr.heap.size 1 (.slice (some ⟨gr, 0, none⟩) n cr) rfl rfl (one_of rfl) (by omega) (by simp; omega) ?_; intro v' w3 hown3 hgr; obtain ⟨g', cap', rfl, hbg', hg'⟩ := hown3.form (by omega); have hb3 : Below (g + 3) wr w3 := ((Below.refl (g + 3) wr).alloc (by omega) _).grown hgr (by simp; omega) (fun x hx => (HOWN2.out.lt x hx).1); have h33 := (hb3.block (g + 2) (by omega)).trans H3R.out; have q5 := cell_of_row w3 (g + 2) 0 _ _ (0, 0) h33; have q6 := frozen_of_row w3 (g + 2) 0 _ _ h33; have H33 := Lib.hid h33; have HO3 := Lib.hid hown3; clear hown3 h33; simp at q5)
          go_roundw
          case rel =>
            have keep : ∀ x cs, x < wr.heap.size → wr.heap[x]? = some (.cells cs 4 (0, 0)) → (w3.setCell ⟨g + 2, 0, none⟩ (.slice (some ⟨g', 0, none⟩) (t + 1) cap')).heap[x]? = some (.cells cs 4 (0, 0)) := by
              intro x cs hx hxs
              have hne : x ≠ g + 2 := by
                intro e
                rw [e, H3R.out] at hxs
                injection hxs with hxs
                injection hxs with _ hxs
                exact absurd hxs (by decide)
              rw [heap_setCell_other _ _ _ _ hne]
              refine (hgr.block x (by simp; omega) (fun e => own_not HOWN2.out hxs (by decide) e.symm)).trans ?_
              rw [Below.heap_alloc _ _ _ hx]
              exact hxs
            refine ⟨t + 1, by omega, by go_num, ⟨.slice (some ⟨g', 0, none⟩) (t + 1) cap', fun i => if i = t then gr else G i, fun i => if i = t then cr else C i, ?_, ?_, fun i hi => ?_⟩, ?_, ?_, ?_, ?_⟩
            · have := heap_setCell_same w3 (g + 2) 0 _ _ (.slice (some ⟨g', 0, none⟩) (t + 1) cap') H33.out
              simpa using this
            · have := own_set HO3.out (p := ⟨g + 2, 0, none⟩) (show g' ≠ g + 2 by omega) (.slice (some ⟨g', 0, none⟩) (t + 1) cap')
              rw [rowsC_succ, rowsC_congr (fun i => if i = t then gr else G i) (fun i => if i = t then cr else C i) G C n t (fun i hi => by simp; omega)]
              have e2 : rowC (fun i => if i = t then gr else G i) (fun i => if i = t then cr else C i) n t = .slice (some ⟨gr, 0, none⟩) n cr := by simp [rowC]
              rw [e2]
              exact this
            · by_cases e : i = t
              · subst e
                simp only [if_pos]
                exact ⟨cur, keep gr cur hgr2 HCUR.out, hcu.out⟩
              · simp only [if_neg e]
                obtain ⟨cs, hcs, hcj⟩ := HIN.out i (by omega)
                have hlo : G i < wo.heap.size := (Array.getElem?_eq_some_iff.1 hcs).1
                exact ⟨cs, keep (G i) cs (by omega) ((hbl.block (G i) hlo).trans hcs), hcj⟩
            · refine Lib.hid ?_
              rw [heap_setCell_other _ _ _ _ (show g ≠ g + 2 by omega), hb3.block g (by omega), hbl.block g (by omega)]
              exact hh1.out
            · refine Lib.hid ?_
              rw [heap_setCell_other _ _ _ _ (show g + 1 ≠ g + 2 by omega), hb3.block (g + 1) (by omega), hbl.block (g + 1) (by omega)]
              exact hh2.out
            · exact ((hb.trans (hbl.mono (by omega))).trans (hb3.mono (by omega))).setCell (show g ≤ g + 2 by omega) _
            · have := hb3.size; simp; omega
          case measure => simp [intOf]; omega
    · obtain rfl : n = t := by omega
      obtain ⟨gv, cv, rfl, hgv1, hgv2⟩ := HOWN.out.form (by omega)
      have q2 := cell_of_row wo (g + 1) 0 _ _ (0, 0) hh2.out
      have q3 := frozen_of_row wo (g + 1) 0 _ _ hh2.out
      have q4 := cell_of_row wo (g + 2) 0 _ _ (0, 0) H3.out
      simp at q2 q4
      have hend : TurnedPost w n f (.returned (.agg #[.slice (some ⟨gv, 0, none⟩) n cv])) (wo.setCell ⟨g + 1, 0, none⟩ (.slice (some ⟨gv, 0, none⟩) n cv)) := by
        refine ⟨_, rfl, ⟨gv, cv, G, C, rfl, by simpa using hgv2, fun i hi => ?_⟩, ?_⟩
        · obtain ⟨cs, hcs, hcj⟩ := HIN.out i hi
          have hne : G i ≠ g + 1 := by
            intro e
            rw [e, hh2.out] at hcs
            injection hcs with hcs
            injection hcs with _ hcs
            exact absurd hcs (by decide)
          refine ⟨by simpa using (Array.getElem?_eq_some_iff.1 hcs).1, ?_, fun j hj => ?_⟩
          · refine (World.cell?_setCell_other _ _ _ _ (fun e => by injection e; omega)).trans ?_
            rw [HOWN.out.cellAt i (by omega), rowsC_get G C n n i hi]; rfl
          · refine (World.cell?_setCell_other _ _ _ _ (fun e => by injection e with e1; exact hne e1.symm)).trans ?_
            rw [cell_of_row wo (G i) j _ _ (0, 0) hcs, hcj j hj]
        · rw [← HG.out]; exact hb.setCell (show g ≤ g + 1 by omega) _
      have HEND := Lib.hid hend
      clear hend
      go_wp2
      exact bodyPost_ret (v := .agg #[.slice (some ⟨gv, 0, none⟩) n cv]) (by simp [results, Try.results36, go_sem, q2]) rfl HEND.out

end Go.Proofs.Ytogmiofmhmbhbaa
