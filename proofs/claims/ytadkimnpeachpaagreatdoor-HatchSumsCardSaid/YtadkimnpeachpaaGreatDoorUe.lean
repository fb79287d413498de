/- The walk of CopyExpr. -/
import Derived.Test.YtadkimnpeachpaaGreatDoorUc
set_option linter.unusedVariables false
namespace Go.Proofs.YtadkimnpeachpaaGreatDoor
open Go.RowKit

mutual
/-- no name and no list within is longer than N -/
def smallE (N : Nat) : Ex → Prop
  | .mk _ _ _ s args => s.length ≤ N ∧ args.length ≤ N ∧ smallEs N args
def smallEs (N : Nat) : List Ex → Prop
  | [] => True
  | e :: es => smallE N e ∧ smallEs N es
end
theorem smallEs_get {N : Nat} : ∀ {es : List Ex}, smallEs N es → ∀ (k : Nat) (hk : k < es.length), smallE N es[k]
  | [], _, k, hk => absurd hk (by simp)
  | e :: es, h, 0, _ => by rw [smallEs] at h; exact h.1
  | e :: es, h, k + 1, hk => by rw [smallEs] at h; exact smallEs_get h.2 k (by simpa using hk)
theorem smallE_args {N : Nat} {e : Ex} (h : smallE N e) : e.name.length ≤ N ∧ e.args.length ≤ N ∧ smallEs N e.args := by
  cases e with
  | mk k p n s a => rw [smallE] at h; exact h
mutual
/-- an expression down to so many levels -/
def copyE : Ex → Int → Ex
  | .mk k p n s args, deep => .mk k p n s (copyEs args deep)
def copyEs : List Ex → Int → List Ex
  | [], _ => []
  | e :: es, deep => if 0 < deep then copyE e (deep - 1) :: copyEs es deep else []
end
theorem copyEs_take (es : List Ex) (deep : Int) (h : 0 < deep) : ∀ (j : Nat) (hj : j < es.length), copyEs (es.take (j + 1)) deep = copyEs (es.take j) deep ++ [copyE es[j] (deep - 1)] := by
  induction es with
  | nil => intro j hj; exact absurd hj (by simp)
  | cons e es ih =>
    intro j hj
    cases j with
    | zero => simp [copyEs, h]
    | succ j =>
      have := ih j (by simpa using hj)
      rw [List.take_succ_cons, List.take_succ_cons, copyEs, copyEs, if_pos h, if_pos h, this]
      rfl
theorem copyEs_none (es : List Ex) (deep : Int) (h : ¬ 0 < deep) : copyEs es deep = [] := by
  cases es with
  | nil => rw [copyEs]
  | cons e es => rw [copyEs, if_neg h]
theorem copyE_args (e : Ex) (deep : Int) : (copyE e deep).kind = e.kind ∧ (copyE e deep).pl = e.pl ∧ (copyE e deep).num = e.num ∧ (copyE e deep).name = e.name ∧ (copyE e deep).args = copyEs e.args deep := by
  cases e with
  | mk k p n s a => rw [copyE]; exact ⟨rfl, rfl, rfl, rfl, rfl⟩
theorem copyEs_len (es : List Ex) (deep : Int) : (copyEs es deep).length ≤ es.length := by
  induction es with
  | nil => rw [copyEs]; exact Nat.le_refl _
  | cons e es ih =>
    rw [copyEs]
    split
    · simp; omega
    · simp

/-- block g is an expression -/
def ExBlk (w : World) (g : Nat) (k p n : Int) (s : ByteArray) (v : Value) : Prop := w.heap[g]? = some (.cells #[.int .i64 k, .int .i64 p, .int .i64 n, .string s, v] 24 (0, 0))
section
variable {w w' : World} {g B : Nat} {k p n : Int} {s : ByteArray} {v : Value}
theorem ExBlk.new (w : World) (k p n : Int) (s : ByteArray) (v : Value) : ExBlk (w.alloc (.cells #[.int .i64 k, .int .i64 p, .int .i64 n, .string s, v] 24)) w.heap.size k p n s v := heap_alloc_new w _
theorem ExBlk.below (h : ExBlk w g k p n s v) (hb : Below B w w') (hg : g < B) : ExBlk w' g k p n s v := (hb.block g hg).trans h
theorem ExBlk.alloc (h : ExBlk w g k p n s v) (hg : g < w.heap.size) (o : Obj) : ExBlk (w.alloc o) g k p n s v := ((Below.refl _ w).alloc (Nat.le_refl _) o |>.block g hg).trans h
theorem ExBlk.c0 (h : ExBlk w g k p n s v) : w.cell? ⟨g, 0, none⟩ = some (.int .i64 k) := by rw [cell_of_row w g 0 _ _ (0, 0) h]; rfl
theorem ExBlk.c1 (h : ExBlk w g k p n s v) : w.cell? ⟨g, 1, none⟩ = some (.int .i64 p) := by rw [cell_of_row w g 1 _ _ (0, 0) h]; rfl
theorem ExBlk.c2 (h : ExBlk w g k p n s v) : w.cell? ⟨g, 2, none⟩ = some (.int .i64 n) := by rw [cell_of_row w g 2 _ _ (0, 0) h]; rfl
theorem ExBlk.c3 (h : ExBlk w g k p n s v) : w.cell? ⟨g, 3, none⟩ = some (.string s) := by rw [cell_of_row w g 3 _ _ (0, 0) h]; rfl
theorem ExBlk.c4 (h : ExBlk w g k p n s v) : w.cell? ⟨g, 4, none⟩ = some v := by rw [cell_of_row w g 4 _ _ (0, 0) h]; rfl
theorem ExBlk.fr (h : ExBlk w g k p n s v) (j : Nat) : w.frozen? ⟨g, j, none⟩ = false := frozen_of_row w g j _ _ h
end
def CopyPost (w : World) (k p num : Int) (name : ByteArray) (es : List Ex) (e : Ending) (w' : World) : Prop :=
  ∃ v, e = .returned (.agg #[.int .i64 k, .int .i64 p, .int .i64 num, .string name, v]) ∧ IsExs w' (fun b => w.heap.size ≤ b ∧ b < w'.heap.size) es v ∧ Below w.heap.size w w'
def Copies (w0 : World) (B : Nat) (es : List Ex) (v : Value) : Prop :=
  smallEs 1000000 es → es.length ≤ 1000000 → ∀ (k p num deep : Int) (name : ByteArray) (w : World), Below B w0 w → B ≤ w.heap.size → -100000 ≤ deep → deep ≤ 100000 →
    Calls Tryz.prog 8 #[.agg #[.int .i64 k, .int .i64 p, .int .i64 num, .string name, v], .int .i64 deep] w (CopyPost w k p num name (copyEs es deep))

set_option maxHeartbeats 1000000 in
theorem copy_any {w0 : World} {B : Nat} {es : List Ex} {v : Value} (h : IsExs w0 (· < B) es v) : Copies w0 B es v := by
  induction h with
  | mk es A c f hc hM hA hr ih =>
    intro hsm hne6 k p num deep name w hb hB hd0 hd
    obtain ⟨ne, hne⟩ : ∃ ne, ne = es.length := ⟨_, rfl⟩
    rw [← hne] at hc hne6 ⊢
    have HNE := Lib.hid hne
    have HB0 := Lib.hid hb
    have HIH := Lib.hid ih
    have HHA := Lib.hid hA
    have HSM := Lib.hid hsm
    clear hne hb ih hA hr hsm
    go_enter Tryz.func8, Tryz.ntmps8
    go_wp2
    obtain ⟨X, hX⟩ : ∃ X : World, X = ((w.alloc (.cells #[.int .i64 k, .int .i64 p, .int .i64 num, .string name, .slice A ne c] 24)).alloc (.cells #[.int .i64 0, .int .i64 0, .int .i64 0, .string ⟨#[]⟩, .slice none 0 0] 24)).alloc (.cells #[] 24) := ⟨_, rfl⟩
    obtain ⟨g, hg⟩ : ∃ g, g = w.heap.size := ⟨_, rfl⟩
    have hx1 : ExBlk X g k p num name (.slice A ne c) := by
      rw [hX, hg]; exact ((ExBlk.new w _ _ _ _ _).alloc (by simp) _).alloc (by simp; omega) _
    have hx2 : ExBlk X (g + 1) 0 0 0 ⟨#[]⟩ (.slice none 0 0) := by
      rw [hX, hg]
      have h := ExBlk.new (w.alloc (.cells #[.int .i64 k, .int .i64 p, .int .i64 num, .string name, .slice A ne c] 24)) 0 0 0 ⟨#[]⟩ (.slice none 0 0)
      rw [show (w.alloc (.cells #[.int .i64 k, .int .i64 p, .int .i64 num, .string name, .slice A ne c] 24)).heap.size = w.heap.size + 1 from by simp] at h
      exact h.alloc (by simp) _
    have hxo : OwnEx X (g + 2) (.slice (some ⟨g + 2, 0, none⟩) 0 0) (copyEs (es.take 0) deep) := by
      rw [hX, hg]
      have h := OwnEx.nil ((w.alloc (.cells #[.int .i64 k, .int .i64 p, .int .i64 num, .string name, .slice A ne c] 24)).alloc (.cells #[.int .i64 0, .int .i64 0, .int .i64 0, .string ⟨#[]⟩, .slice none 0 0] 24))
      rw [show ((w.alloc (.cells #[.int .i64 k, .int .i64 p, .int .i64 num, .string name, .slice A ne c] 24)).alloc (.cells #[.int .i64 0, .int .i64 0, .int .i64 0, .string ⟨#[]⟩, .slice none 0 0] 24)).heap.size = w.heap.size + 2 from by simp] at h
      rw [List.take_zero, copyEs]
      exact h
    have hxs : X.heap.size = g + 3 := by rw [hX, hg]; simp
    have hxb : Below g w X := by rw [hX, hg]; exact (((Below.refl _ w).alloc (Nat.le_refl _) _).alloc (by simp) _).alloc (by simp; omega) _
    rw [← hX, ← hg]
    have HX1 := Lib.hid hx1
    have HX2 := Lib.hid hx2
    have HXO := Lib.hid hxo
    have HXS := Lib.hid hxs
    have HXB := Lib.hid hxb
    have HG := Lib.hid hg
    clear hX hx1 hx2 hxo hxs hxb hg
    go_loopw [5, 6] (fun v i wr => ∃ j : Nat, j ≤ ne ∧ i = .int .i64 j ∧ Hid (OwnEx wr (g + 2) v (copyEs (es.take j) deep)) ∧ Hid (Below (g + 2) X wr) ∧ g + 2 < wr.heap.size) (fun _ i _ => ne - (intOf i).toNat)
    case atStart => exact ⟨0, Nat.zero_le _, rfl, HXO, Lib.hid (Below.refl _ _), by have := HXS.out; omega⟩
    case round =>
      obtain ⟨wo, rfl⟩ : ∃ wo : World, wo = wr := ⟨_, rfl⟩
      obtain ⟨j, hj, rfl, HO, HBL, hws⟩ := hrel
      have hb1 := HX1.out.below HBL.out (by omega)
      have k0 := hb1.c0
      have k1 := hb1.c1
      have k2 := hb1.c2
      have k3 := hb1.c3
      have k4 := hb1.c4
      by_cases hgo : j < ne ∧ 0 < deep
      · obtain ⟨hlt, hdp⟩ := hgo
        have hje : j < es.length := by rw [← HNE.out]; exact hlt
        obtain ⟨b, off, rfl, hbB, hnm, p0, p1, p2, p3, p4⟩ := HHA.out j hje
        have hbw : Below B w0 wo := HB0.out.trans ((HXB.out.trans (HBL.out.mono (by omega))).mono (by rw [HG.out]; exact hB))
        have hsx : B ≤ wo.heap.size := by have := HG.out; omega
        have hsmj := smallE_args (smallEs_get HSM.out j hje)
        have hcc := HIH.out j hje hsmj.2.2 hsmj.2.1 es[j].kind es[j].pl es[j].num (deep - 1) (strOf es[j].name) wo hbw hsx (by omega) (by omega)
        have r0 := (hbw.cell (p := ⟨b, off + j * 5, none⟩) hbB).trans p0
        have r1 := (hbw.cell (p := ⟨b, off + j * 5 + 1, none⟩) hbB).trans p1
        have r2 := (hbw.cell (p := ⟨b, off + j * 5 + 2, none⟩) hbB).trans p2
        have r3 := (hbw.cell (p := ⟨b, off + j * 5 + 3, none⟩) hbB).trans p3
        have r4 := (hbw.cell (p := ⟨b, off + j * 5 + 4, none⟩) hbB).trans p4
        have hct := copyEs_take es deep hdp j hje
        obtain ⟨e1, e2, e3, e4, e5⟩ := copyE_args es[j] (deep - 1)
        obtain ⟨Y, hY⟩ : ∃ Y, Y = copyE es[j] (deep - 1) := ⟨_, rfl⟩
        rw [← hY] at e1 e2 e3 e4 e5 hct
        rw [← e5] at hcc
        rw [← e4] at r3 hcc hnm
        rw [← e3] at r2 hcc
        rw [← e2] at r1 hcc
        rw [← e1] at r0 hcc
        obtain ⟨yk, hyk⟩ : ∃ x, x = Y.kind := ⟨_, rfl⟩
        obtain ⟨yp, hyp⟩ : ∃ x, x = Y.pl := ⟨_, rfl⟩
        obtain ⟨yn, hyn⟩ : ∃ x, x = Y.num := ⟨_, rfl⟩
        obtain ⟨ys, hys⟩ : ∃ x, x = strOf Y.name := ⟨_, rfl⟩
        obtain ⟨yv, hyv⟩ : ∃ x, x = f j := ⟨_, rfl⟩
        rw [← hyk, ← hyp, ← hyn, ← hys, ← hyv] at hcc
        rw [← hyk] at r0
        rw [← hyp] at r1
        rw [← hyn] at r2
        rw [← hys] at r3
        rw [← hyv] at r4
        have HCC := Lib.hid hcc
        have HCT := Lib.hid hct
        have hcells : ∀ u, exCells Y u = [.int .i64 yk, .int .i64 yp, .int .i64 yn, .string ys, u] := fun u => by rw [hyk, hyp, hyn, hys]; rfl
        have HCL := Lib.hid hcells
        have hlen : (copyEs (es.take j) deep).length ≤ 1000000 := by
          have h1 := copyEs_len (es.take j) deep
          rw [List.length_take] at h1
          omega
        have HLEN := Lib.hid hlen
        have HNM := Lib.hid hnm
        clear hcc hct hcells hlen hnm hsmj e1 e2 e3 e4 e5 hY hyk hyp hyn hys hyv hbw p0 p1 p2 p3 p4 k0 k1 k2 k3 HIH
        go_wp2_with fail
        refine HCC.out.mono ?_
        rintro e w1 ⟨v1, rfl, hi1, hb1'⟩
        have hs1 := hb1'.size
        have ho1 : OwnEx (w1.alloc (.cells #[.int .i64 yk, .int .i64 yp, .int .i64 yn, .string ys, v1] 24)) (g + 2) u5 (copyEs (es.take j) deep) := (HO.out.below hb1').below ((Below.refl _ _).alloc (Nat.le_refl _) _)
        have hnew : ∀ q y, (exCells Y v1)[q]? = some y → (w1.alloc (.cells #[.int .i64 yk, .int .i64 yp, .int .i64 yn, .string ys, v1] 24)).cell? ((⟨w1.heap.size, 0, none⟩ : Addr).add q) = some y := fun q y hq => by
          rw [HCL.out] at hq
          rw [add_pl, Nat.zero_add, cell_of_row _ _ q _ _ (0, 0) (heap_alloc_new w1 _)]
          simpa using hq
        have hun : IsExs (w1.alloc (.cells #[.int .i64 yk, .int .i64 yp, .int .i64 yn, .string ys, v1] 24)) (fun b => g + 2 ≤ b ∧ b < (w1.alloc (.cells #[.int .i64 yk, .int .i64 yp, .int .i64 yn, .string ys, v1] 24)).heap.size ∧ u5.ownBlock ≠ some b) Y.args v1 := by
          obtain ⟨fs, _, hrow, _⟩ := HO.out
          refine hi1.keep (fun b hb2 => ((Below.refl _ w1).alloc (Nat.le_refl _) _).block b hb2.2) (fun b hb2 => ⟨by omega, by simp; omega, fun e => ?_⟩)
          have := (hrow.lt b e).2
          omega
        have HO1 := Lib.hid ho1
        have HNEW := Lib.hid hnew
        have HUN := Lib.hid hun
        have HB1 := Lib.hid hb1'
        have hcell := hi1.one
        clear ho1 hnew hun hi1 hb1'
        go_wp2_with (first
          | (at_builtin; refine wpList_append_ex rfl _ _ rfl (g + 2) u5 (copyEs (es.take j) deep) rfl HO1.out ⟨w1.heap.size, 0, none⟩ 1 Y v1 rfl HNEW.out HUN.out HNM.out HLEN.out (by simp; omega) ?_; intro v' w3 hown3 hgr))
        go_roundw
        case rel =>
          have hb3 := (((HBL.out.trans (HB1.out.mono (by omega))).alloc (B := g + 2) (by omega) (.cells #[.int .i64 yk, .int .i64 yp, .int .i64 yn, .string ys, v1] 24))).grown hgr (by simp; omega) (fun q hq => by
            obtain ⟨fs, _, hrow, _⟩ := HO.out
            exact (hrow.lt q hq).1)
          exact ⟨j + 1, by omega, by go_num, Lib.hid (by rw [HCT.out]; exact hown3), Lib.hid hb3, by have h1 := hb3.size; have h2 := HXS.out; omega⟩
        case measure => simp [intOf]; omega
      · have hall : copyEs (es.take j) deep = copyEs es deep := by
          by_cases h0 : 0 < deep
          · have hje : ¬ j < ne := fun h => hgo ⟨h, h0⟩
            rw [List.take_of_length_le (by rw [← HNE.out]; omega)]
          · rw [copyEs_none _ _ h0, copyEs_none _ _ h0]
        rw [hall] at HO
        obtain ⟨A5, n5, c5, rfl⟩ : ∃ A n c, u5 = .slice A n c := by
          have h := HO.out.exs
          cases h
          exact ⟨_, _, _, rfl⟩
        have f4 := hb1.fr 4
        have hb2 := HX2.out.below HBL.out (by omega)
        have m0 := hb2.c0
        have m1 := hb2.c1
        have m2 := hb2.c2
        have m3 := hb2.c3
        have m4 := hb2.c4
        have n0 := hb2.fr 0
        have n1 := hb2.fr 1
        have n2 := hb2.fr 2
        have n3 := hb2.fr 3
        have n4 := hb2.fr 4
        clear hall HIH HHA
        have hcase : j = ne ∨ (j < ne ∧ deep ≤ 0) := by
          rcases Nat.lt_or_ge j ne with h | h
          · exact .inr ⟨h, by
              rcases Int.lt_or_le 0 deep with h2 | h2
              · exact absurd ⟨h, h2⟩ hgo
              · exact h2⟩
          · exact .inl (by omega)
        clear hgo
        rcases hcase with h | ⟨h, h'⟩
        all_goals
          go_wp2
          have hfin : IsExs ((((((wo.setCell ⟨g, 4, none⟩ (.slice A5 n5 c5)).setCell ⟨g + 1, 0, none⟩ (.int .i64 k)).setCell ⟨g + 1, 1, none⟩ (.int .i64 p)).setCell ⟨g + 1, 2, none⟩ (.int .i64 num)).setCell ⟨g + 1, 3, none⟩ (.string name)).setCell ⟨g + 1, 4, none⟩ (.slice A5 n5 c5))
              (fun b => w.heap.size ≤ b ∧ b < ((((((wo.setCell ⟨g, 4, none⟩ (.slice A5 n5 c5)).setCell ⟨g + 1, 0, none⟩ (.int .i64 k)).setCell ⟨g + 1, 1, none⟩ (.int .i64 p)).setCell ⟨g + 1, 2, none⟩ (.int .i64 num)).setCell ⟨g + 1, 3, none⟩ (.string name)).setCell ⟨g + 1, 4, none⟩ (.slice A5 n5 c5)).heap.size) (copyEs es deep) (.slice A5 n5 c5) := by
            refine HO.out.exs.keep (fun b hb => ?_) (fun b hb => ⟨by have := HG.out; omega, by simpa using hb.2⟩)
            rw [Below.heap_setCell _ _ _ b (show b ≠ g + 1 by omega), Below.heap_setCell _ _ _ b (show b ≠ g + 1 by omega), Below.heap_setCell _ _ _ b (show b ≠ g + 1 by omega), Below.heap_setCell _ _ _ b (show b ≠ g + 1 by omega), Below.heap_setCell _ _ _ b (show b ≠ g + 1 by omega), Below.heap_setCell _ _ _ b (show b ≠ g by omega)]
          have hbel : Below w.heap.size w ((((((wo.setCell ⟨g, 4, none⟩ (.slice A5 n5 c5)).setCell ⟨g + 1, 0, none⟩ (.int .i64 k)).setCell ⟨g + 1, 1, none⟩ (.int .i64 p)).setCell ⟨g + 1, 2, none⟩ (.int .i64 num)).setCell ⟨g + 1, 3, none⟩ (.string name)).setCell ⟨g + 1, 4, none⟩ (.slice A5 n5 c5)) := by
            rw [← HG.out]
            exact ((((((HXB.out.trans (HBL.out.mono (by omega))).setCell (Nat.le_refl _) _).setCell (by simp) _).setCell (by simp) _).setCell (by simp) _).setCell (by simp) _).setCell (by simp) _
          exact bodyPost_ret (v := .agg #[.int .i64 k, .int .i64 p, .int .i64 num, .string name, .slice A5 n5 c5]) (by simp [results, Tryz.results8, go_sem, m0, m1, m2, m3, m4]) rfl ⟨_, rfl, hfin, hbel⟩

end Go.Proofs.YtadkimnpeachpaaGreatDoor
