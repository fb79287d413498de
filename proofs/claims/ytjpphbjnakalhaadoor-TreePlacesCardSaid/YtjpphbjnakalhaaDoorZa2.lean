/- Ue Ug Uh -/
import Derived.Test.YtjpphbjnakalhaaDoorZa0
import Derived.StillTailTactics
import Derived.IntWalk
section
set_option linter.unusedVariables false
namespace Go.Proofs.YtjpphbjnakalhaaDoor
open Go.RowKit
mutual
def smallE (N : Nat) : Ex → Prop
  | .mk _ _ _ s args => s.length ≤ N ∧ args.length ≤ N ∧ smallEs N args
def smallEs (N : Nat) : List Ex → Prop
  | [] => True
  | e :: es => smallE N e ∧ smallEs N es
end
theorem smallEs_get {N : Nat} : ∀ {es : List Ex}, smallEs N es → ∀ (k : Nat) (hk : k < es.length), smallE N es[k]
  | [], _, k, hk => absurd hk (by simp)
  | e :: es, h, 0, _ => by rw [smallEs] at h; exact h.1
  | e :: es, h, k + 1, hk => by rw [smallEs] at h; exact smallEs_get h.2 k (by simpa using hk)
theorem smallE_args {N : Nat} {e : Ex} (h : smallE N e) : e.name.length ≤ N ∧ e.args.length ≤ N ∧ smallEs N e.args := by
  cases e with
  | mk k p n s a => rw [smallE] at h; exact h
mutual
def copyE : Ex → Int → Ex
  | .mk k p n s args, deep => .mk k p n s (copyEs args deep)
def copyEs : List Ex → Int → List Ex
  | [], _ => []
  | e :: es, deep => if 0 < deep then copyE e (deep - 1) :: copyEs es deep else []
end
theorem copyEs_take (es : List Ex) (deep : Int) (h : 0 < deep) : ∀ (j : Nat) (hj : j < es.length), copyEs (es.take (j + 1)) deep = copyEs (es.take j) deep ++ [copyE es[j] (deep - 1)] := by
  induction es with
  | nil => intro j hj; exact absurd hj (by simp)
  | cons e es ih =>
    intro j hj
    cases j with
    | zero => simp [copyEs, h]
    | succ j =>
      have := ih j (by simpa using hj)
      rw [List.take_succ_cons, List.take_succ_cons, copyEs, copyEs, if_pos h, if_pos h, this]
      rfl
theorem copyEs_none (es : List Ex) (deep : Int) (h : ¬ 0 < deep) : copyEs es deep = [] := by
  cases es with
  | nil => rw [copyEs]
  | cons e es => rw [copyEs, if_neg h]
theorem copyE_args (e : Ex) (deep : Int) : (copyE e deep).kind = e.kind ∧ (copyE e deep).pl = e.pl ∧ (copyE e deep).num = e.num ∧ (copyE e deep).name = e.name ∧ (copyE e deep).args = copyEs e.args deep := by
  cases e with
  | mk k p n s a => rw [copyE]; exact ⟨rfl, rfl, rfl, rfl, rfl⟩
theorem copyEs_len (es : List Ex) (deep : Int) : (copyEs es deep).length ≤ es.length := by
  induction es with
  | nil => rw [copyEs]; exact Nat.le_refl _
  | cons e es ih =>
    rw [copyEs]
    split
    · simp; omega
    · simp
def ExBlk (w : World) (g : Nat) (k p n : Int) (s : ByteArray) (v : Value) : Prop := w.heap[g]? = some (.cells #[.int .i64 k, .int .i64 p, .int .i64 n, .string s, v] 40 (0, 0))
section
variable {w w' : World} {g B : Nat} {k p n : Int} {s : ByteArray} {v : Value}
theorem ExBlk.new (w : World) (k p n : Int) (s : ByteArray) (v : Value) : ExBlk (w.alloc (.cells #[.int .i64 k, .int .i64 p, .int .i64 n, .string s, v] 40)) w.heap.size k p n s v := heap_alloc_new w _
theorem ExBlk.below (h : ExBlk w g k p n s v) (hb : Below B w w') (hg : g < B) : ExBlk w' g k p n s v := (hb.block g hg).trans h
theorem ExBlk.alloc (h : ExBlk w g k p n s v) (hg : g < w.heap.size) (o : Obj) : ExBlk (w.alloc o) g k p n s v := ((Below.refl _ w).alloc (Nat.le_refl _) o |>.block g hg).trans h
theorem ExBlk.c0 (h : ExBlk w g k p n s v) : w.cell? ⟨g, 0, none⟩ = some (.int .i64 k) := by rw [cell_of_row w g 0 _ _ (0, 0) h]; rfl
theorem ExBlk.c1 (h : ExBlk w g k p n s v) : w.cell? ⟨g, 1, none⟩ = some (.int .i64 p) := by rw [cell_of_row w g 1 _ _ (0, 0) h]; rfl
theorem ExBlk.c2 (h : ExBlk w g k p n s v) : w.cell? ⟨g, 2, none⟩ = some (.int .i64 n) := by rw [cell_of_row w g 2 _ _ (0, 0) h]; rfl
theorem ExBlk.c3 (h : ExBlk w g k p n s v) : w.cell? ⟨g, 3, none⟩ = some (.string s) := by rw [cell_of_row w g 3 _ _ (0, 0) h]; rfl
theorem ExBlk.c4 (h : ExBlk w g k p n s v) : w.cell? ⟨g, 4, none⟩ = some v := by rw [cell_of_row w g 4 _ _ (0, 0) h]; rfl
theorem ExBlk.fr (h : ExBlk w g k p n s v) (j : Nat) : w.frozen? ⟨g, j, none⟩ = false := frozen_of_row w g j _ _ h
end
def CopyPost (w : World) (k p num : Int) (name : ByteArray) (es : List Ex) (e : Ending) (w' : World) : Prop :=
  ∃ v, e = .returned (.agg #[.int .i64 k, .int .i64 p, .int .i64 num, .string name, v]) ∧ IsExs w' (fun b => w.heap.size ≤ b ∧ b < w'.heap.size) es v ∧ Below w.heap.size w w'
def Copies (w0 : World) (B : Nat) (es : List Ex) (v : Value) : Prop :=
  smallEs 1000000 es → es.length ≤ 1000000 → ∀ (k p num deep : Int) (name : ByteArray) (w : World), Below B w0 w → B ≤ w.heap.size → -100000 ≤ deep → deep ≤ 100000 →
    Calls Tryd.prog 25 #[.agg #[.int .i64 k, .int .i64 p, .int .i64 num, .string name, v], .int .i64 deep] w (CopyPost w k p num name (copyEs es deep))
set_option maxHeartbeats 1000000 in
theorem copy_any {w0 : World} {B : Nat} {es : List Ex} {v : Value} (h : IsExs w0 (· < B) es v) : Copies w0 B es v := by
  induction h with
  | mk es A c f hc hM hA hr ih =>
    intro hsm hne6 k p num deep name w hb hB hd0 hd
    obtain ⟨ne, hne⟩ : ∃ ne, ne = es.length := ⟨_, rfl⟩
    rw [← hne] at hc hne6 ⊢
    have HNE := Lib.hid hne
    have HB0 := Lib.hid hb
    have HIH := Lib.hid ih
    have HHA := Lib.hid hA
    have HSM := Lib.hid hsm
    clear hne hb ih hA hr hsm
    go_enter Tryd.func25, Tryd.ntmps25
    go_wp2
    obtain ⟨X, hX⟩ : ∃ X : World, X = ((w.alloc (.cells #[.int .i64 k, .int .i64 p, .int .i64 num, .string name, .slice A ne c] 40)).alloc (.cells #[.int .i64 0, .int .i64 0, .int .i64 0, .string ⟨#[]⟩, .slice none 0 0] 40)).alloc (.cells #[] 40) := ⟨_, rfl⟩
    obtain ⟨g, hg⟩ : ∃ g, g = w.heap.size := ⟨_, rfl⟩
    have hx1 : ExBlk X g k p num name (.slice A ne c) := by
      rw [hX, hg]; exact ((ExBlk.new w _ _ _ _ _).alloc (by simp) _).alloc (by simp; omega) _
    have hx2 : ExBlk X (g + 1) 0 0 0 ⟨#[]⟩ (.slice none 0 0) := by
      rw [hX, hg]
      have h := ExBlk.new (w.alloc (.cells #[.int .i64 k, .int .i64 p, .int .i64 num, .string name, .slice A ne c] 40)) 0 0 0 ⟨#[]⟩ (.slice none 0 0)
      rw [show (w.alloc (.cells #[.int .i64 k, .int .i64 p, .int .i64 num, .string name, .slice A ne c] 40)).heap.size = w.heap.size + 1 from by simp] at h
      exact h.alloc (by simp) _
    have hxo : OwnEx X (g + 2) (.slice (some ⟨g + 2, 0, none⟩) 0 0) (copyEs (es.take 0) deep) := by
      rw [hX, hg]
      have h := OwnEx.nil ((w.alloc (.cells #[.int .i64 k, .int .i64 p, .int .i64 num, .string name, .slice A ne c] 40)).alloc (.cells #[.int .i64 0, .int .i64 0, .int .i64 0, .string ⟨#[]⟩, .slice none 0 0] 40))
      rw [show ((w.alloc (.cells #[.int .i64 k, .int .i64 p, .int .i64 num, .string name, .slice A ne c] 40)).alloc (.cells #[.int .i64 0, .int .i64 0, .int .i64 0, .string ⟨#[]⟩, .slice none 0 0] 40)).heap.size = w.heap.size + 2 from by simp] at h
      rw [List.take_zero, copyEs]
      exact h
    have hxs : X.heap.size = g + 3 := by rw [hX, hg]; simp
    have hxb : Below g w X := by rw [hX, hg]; exact (((Below.refl _ w).alloc (Nat.le_refl _) _).alloc (by simp) _).alloc (by simp; omega) _
    rw [← hX, ← hg]
    have HX1 := Lib.hid hx1
    have HX2 := Lib.hid hx2
    have HXO := Lib.hid hxo
    have HXS := Lib.hid hxs
    have HXB := Lib.hid hxb
    have HG := Lib.hid hg
    clear hX hx1 hx2 hxo hxs hxb hg
    go_loopw [5, 6] (fun v i wr => ∃ j : Nat, j ≤ ne ∧ i = .int .i64 j ∧ Hid (OwnEx wr (g + 2) v (copyEs (es.take j) deep)) ∧ Hid (Below (g + 2) X wr) ∧ g + 2 < wr.heap.size) (fun _ i _ => ne - (intOf i).toNat)
    case atStart => exact ⟨0, Nat.zero_le _, rfl, HXO, Lib.hid (Below.refl _ _), by have := HXS.out; omega⟩
    case round =>
      obtain ⟨wo, rfl⟩ : ∃ wo : World, wo = wr := ⟨_, rfl⟩
      obtain ⟨j, hj, rfl, HO, HBL, hws⟩ := hrel
      have hb1 := HX1.out.below HBL.out (by omega)
      have k0 := hb1.c0
      have k1 := hb1.c1
      have k2 := hb1.c2
      have k3 := hb1.c3
      have k4 := hb1.c4
      by_cases hgo : j < ne ∧ 0 < deep
      · obtain ⟨hlt, hdp⟩ := hgo
        have hje : j < es.length := by rw [← HNE.out]; exact hlt
        obtain ⟨b, off, rfl, hbB, hnm, p0, p1, p2, p3, p4⟩ := HHA.out j hje
        have hbw : Below B w0 wo := HB0.out.trans ((HXB.out.trans (HBL.out.mono (by omega))).mono (by rw [HG.out]; exact hB))
        have hsx : B ≤ wo.heap.size := by have := HG.out; omega
        have hsmj := smallE_args (smallEs_get HSM.out j hje)
        have hcc := HIH.out j hje hsmj.2.2 hsmj.2.1 es[j].kind es[j].pl es[j].num (deep - 1) (strOf es[j].name) wo hbw hsx (by omega) (by omega)
        have r0 := (hbw.cell (p := ⟨b, off + j * 5, none⟩) hbB).trans p0
        have r1 := (hbw.cell (p := ⟨b, off + j * 5 + 1, none⟩) hbB).trans p1
        have r2 := (hbw.cell (p := ⟨b, off + j * 5 + 2, none⟩) hbB).trans p2
        have r3 := (hbw.cell (p := ⟨b, off + j * 5 + 3, none⟩) hbB).trans p3
        have r4 := (hbw.cell (p := ⟨b, off + j * 5 + 4, none⟩) hbB).trans p4
        have hct := copyEs_take es deep hdp j hje
        obtain ⟨e1, e2, e3, e4, e5⟩ := copyE_args es[j] (deep - 1)
        obtain ⟨Y, hY⟩ : ∃ Y, Y = copyE es[j] (deep - 1) := ⟨_, rfl⟩
        rw [← hY] at e1 e2 e3 e4 e5 hct
        rw [← e5] at hcc
        rw [← e4] at r3 hcc hnm
        rw [← e3] at r2 hcc
        rw [← e2] at r1 hcc
        rw [← e1] at r0 hcc
        obtain ⟨yk, hyk⟩ : ∃ x, x = Y.kind := ⟨_, rfl⟩
        obtain ⟨yp, hyp⟩ : ∃ x, x = Y.pl := ⟨_, rfl⟩
        obtain ⟨yn, hyn⟩ : ∃ x, x = Y.num := ⟨_, rfl⟩
        obtain ⟨ys, hys⟩ : ∃ x, x = strOf Y.name := ⟨_, rfl⟩
        obtain ⟨yv, hyv⟩ : ∃ x, x = f j := ⟨_, rfl⟩
        rw [← hyk, ← hyp, ← hyn, ← hys, ← hyv] at hcc
        rw [← hyk] at r0
        rw [← hyp] at r1
        rw [← hyn] at r2
        rw [← hys] at r3
        rw [← hyv] at r4
        have HCC := Lib.hid hcc
        have HCT := Lib.hid hct
        have hcells : ∀ u, exCells Y u = [.int .i64 yk, .int .i64 yp, .int .i64 yn, .string ys, u] := fun u => by rw [hyk, hyp, hyn, hys]; rfl
        have HCL := Lib.hid hcells
        have hlen : (copyEs (es.take j) deep).length ≤ 1000000 := by
          have h1 := copyEs_len (es.take j) deep
          rw [List.length_take] at h1
          omega
        have HLEN := Lib.hid hlen
        have HNM := Lib.hid hnm
        clear hcc hct hcells hlen hnm hsmj e1 e2 e3 e4 e5 hY hyk hyp hyn hys hyv hbw p0 p1 p2 p3 p4 k0 k1 k2 k3 HIH
        go_wp2_with fail
        refine HCC.out.mono ?_
        rintro e w1 ⟨v1, rfl, hi1, hb1'⟩
        have hs1 := hb1'.size
        have ho1 : OwnEx (w1.alloc (.cells #[.int .i64 yk, .int .i64 yp, .int .i64 yn, .string ys, v1] 40)) (g + 2) u5 (copyEs (es.take j) deep) := (HO.out.below hb1').below ((Below.refl _ _).alloc (Nat.le_refl _) _)
        have hnew : ∀ q y, (exCells Y v1)[q]? = some y → (w1.alloc (.cells #[.int .i64 yk, .int .i64 yp, .int .i64 yn, .string ys, v1] 40)).cell? ((⟨w1.heap.size, 0, none⟩ : Addr).add q) = some y := fun q y hq => by
          rw [HCL.out] at hq
          rw [add_pl, Nat.zero_add, cell_of_row _ _ q _ _ (0, 0) (heap_alloc_new w1 _)]
          simpa using hq
        have hun : IsExs (w1.alloc (.cells #[.int .i64 yk, .int .i64 yp, .int .i64 yn, .string ys, v1] 40)) (fun b => g + 2 ≤ b ∧ b < (w1.alloc (.cells #[.int .i64 yk, .int .i64 yp, .int .i64 yn, .string ys, v1] 40)).heap.size ∧ u5.ownBlock ≠ some b) Y.args v1 := by
          obtain ⟨fs, _, hrow, _⟩ := HO.out
          refine hi1.keep (fun b hb2 => ((Below.refl _ w1).alloc (Nat.le_refl _) _).block b hb2.2) (fun b hb2 => ⟨by omega, by simp; omega, fun e => ?_⟩)
          have := (hrow.lt b e).2
          omega
        have HO1 := Lib.hid ho1
        have HNEW := Lib.hid hnew
        have HUN := Lib.hid hun
        have HB1 := Lib.hid hb1'
        have hcell := hi1.one
        clear ho1 hnew hun hi1 hb1'
        go_wp2_with (first
          | (at_builtin; refine wpList_append_ex rfl _ _ rfl (g + 2) u5 (copyEs (es.take j) deep) rfl HO1.out ⟨w1.heap.size, 0, none⟩ 1 Y v1 rfl HNEW.out HUN.out HNM.out HLEN.out (by simp; omega) ?_; intro v' w3 hown3 hgr))
        go_roundw
        case rel =>
          have hb3 := (((HBL.out.trans (HB1.out.mono (by omega))).alloc (B := g + 2) (by omega) (.cells #[.int .i64 yk, .int .i64 yp, .int .i64 yn, .string ys, v1] 40))).grown hgr (by simp; omega) (fun q hq => by
            obtain ⟨fs, _, hrow, _⟩ := HO.out
            exact (hrow.lt q hq).1)
          exact ⟨j + 1, by omega, by go_num, Lib.hid (by rw [HCT.out]; exact hown3), Lib.hid hb3, by have h1 := hb3.size; have h2 := HXS.out; omega⟩
        case measure => simp [intOf]; omega
      · have hall : copyEs (es.take j) deep = copyEs es deep := by
          by_cases h0 : 0 < deep
          · have hje : ¬ j < ne := fun h => hgo ⟨h, h0⟩
            rw [List.take_of_length_le (by rw [← HNE.out]; omega)]
          · rw [copyEs_none _ _ h0, copyEs_none _ _ h0]
        rw [hall] at HO
        obtain ⟨A5, n5, c5, rfl⟩ : ∃ A n c, u5 = .slice A n c := by
          have h := HO.out.exs
          cases h
          exact ⟨_, _, _, rfl⟩
        have f4 := hb1.fr 4
        have hb2 := HX2.out.below HBL.out (by omega)
        have m0 := hb2.c0
        have m1 := hb2.c1
        have m2 := hb2.c2
        have m3 := hb2.c3
        have m4 := hb2.c4
        have n0 := hb2.fr 0
        have n1 := hb2.fr 1
        have n2 := hb2.fr 2
        have n3 := hb2.fr 3
        have n4 := hb2.fr 4
        clear hall HIH HHA
        have hcase : j = ne ∨ (j < ne ∧ deep ≤ 0) := by
          rcases Nat.lt_or_ge j ne with h | h
          · exact .inr ⟨h, by
              rcases Int.lt_or_le 0 deep with h2 | h2
              · exact absurd ⟨h, h2⟩ hgo
              · exact h2⟩
          · exact .inl (by omega)
        clear hgo
        rcases hcase with h | ⟨h, h'⟩
        all_goals
          go_wp2
          have hfin : IsExs ((((((wo.setCell ⟨g, 4, none⟩ (.slice A5 n5 c5)).setCell ⟨g + 1, 0, none⟩ (.int .i64 k)).setCell ⟨g + 1, 1, none⟩ (.int .i64 p)).setCell ⟨g + 1, 2, none⟩ (.int .i64 num)).setCell ⟨g + 1, 3, none⟩ (.string name)).setCell ⟨g + 1, 4, none⟩ (.slice A5 n5 c5))
              (fun b => w.heap.size ≤ b ∧ b < ((((((wo.setCell ⟨g, 4, none⟩ (.slice A5 n5 c5)).setCell ⟨g + 1, 0, none⟩ (.int .i64 k)).setCell ⟨g + 1, 1, none⟩ (.int .i64 p)).setCell ⟨g + 1, 2, none⟩ (.int .i64 num)).setCell ⟨g + 1, 3, none⟩ (.string name)).setCell ⟨g + 1, 4, none⟩ (.slice A5 n5 c5)).heap.size) (copyEs es deep) (.slice A5 n5 c5) := by
            refine HO.out.exs.keep (fun b hb => ?_) (fun b hb => ⟨by have := HG.out; omega, by simpa using hb.2⟩)
            rw [Below.heap_setCell _ _ _ b (show b ≠ g + 1 by omega), Below.heap_setCell _ _ _ b (show b ≠ g + 1 by omega), Below.heap_setCell _ _ _ b (show b ≠ g + 1 by omega), Below.heap_setCell _ _ _ b (show b ≠ g + 1 by omega), Below.heap_setCell _ _ _ b (show b ≠ g + 1 by omega), Below.heap_setCell _ _ _ b (show b ≠ g by omega)]
          have hbel : Below w.heap.size w ((((((wo.setCell ⟨g, 4, none⟩ (.slice A5 n5 c5)).setCell ⟨g + 1, 0, none⟩ (.int .i64 k)).setCell ⟨g + 1, 1, none⟩ (.int .i64 p)).setCell ⟨g + 1, 2, none⟩ (.int .i64 num)).setCell ⟨g + 1, 3, none⟩ (.string name)).setCell ⟨g + 1, 4, none⟩ (.slice A5 n5 c5)) := by
            rw [← HG.out]
            exact ((((((HXB.out.trans (HBL.out.mono (by omega))).setCell (Nat.le_refl _) _).setCell (by simp) _).setCell (by simp) _).setCell (by simp) _).setCell (by simp) _).setCell (by simp) _
          exact bodyPost_ret (v := .agg #[.int .i64 k, .int .i64 p, .int .i64 num, .string name, .slice A5 n5 c5]) (by simp [results, Tryd.results25, go_sem, m0, m1, m2, m3, m4]) rfl ⟨_, rfl, hfin, hbel⟩
end Go.Proofs.YtjpphbjnakalhaaDoor
end
section
set_option linter.unusedVariables false
namespace Go.Proofs.YtjpphbjnakalhaaDoor
open Go.RowKit
theorem map_take {es : List Ex} (f : Ex → Ex) {j : Nat} (h : j < es.length) : (es.take (j + 1)).map f = (es.take j).map f ++ [f es[j]] := by
  rw [List.take_succ_eq_append_getElem h, List.map_append]; rfl
def ExsPost (w : World) (es : List Ex) (e : Ending) (w' : World) : Prop :=
  ∃ v, e = .returned v ∧ IsExs w' (fun b => w.heap.size ≤ b ∧ b < w'.heap.size) es v ∧ Below w.heap.size w w'
set_option maxHeartbeats 1000000 in
theorem copys_any {w0 : World} {B : Nat} {es : List Ex} {v : Value} (h : IsExs w0 (· < B) es v) (hsm : smallEs 1000000 es) (hne6 : es.length ≤ 1000000) (deep : Int) (w : World) (hb : Below B w0 w) (hB : B ≤ w.heap.size) (hd0 : -100000 ≤ deep) (hd : deep ≤ 100000) :
    Calls Tryd.prog 18 #[v, .int .i64 deep] w (ExsPost w (es.map (copyE · deep))) := by
  cases h with
  | mk es A c f hc hM hA hr =>
    obtain ⟨ne, hne⟩ : ∃ ne, ne = es.length := ⟨_, rfl⟩
    rw [← hne] at hc hne6 ⊢
    have HNE := Lib.hid hne
    have HB0 := Lib.hid hb
    have HHA := Lib.hid hA
    have HR := Lib.hid hr
    have HSM := Lib.hid hsm
    clear hne hb hA hr hsm
    go_enter Tryd.func18, Tryd.ntmps18
    go_wp2
    obtain ⟨X, hX⟩ : ∃ X : World, X = w.alloc (.cells #[] 40) := ⟨_, rfl⟩
    obtain ⟨g, hg⟩ : ∃ g, g = w.heap.size := ⟨_, rfl⟩
    have hxo : OwnEx X g (.slice (some ⟨g, 0, none⟩) 0 0) ((es.take 0).map (copyE · deep)) := by rw [hX, hg]; exact OwnEx.nil w
    have hxs : X.heap.size = g + 1 := by rw [hX, hg]; simp
    have hxb : Below g w X := by rw [hX, hg]; exact (Below.refl _ w).alloc (Nat.le_refl _) _
    rw [← hX, ← hg]
    have HXO := Lib.hid hxo
    have HXS := Lib.hid hxs
    have HXB := Lib.hid hxb
    have HG := Lib.hid hg
    clear hX hxo hxs hxb hg
    go_loopw [5, 6] (fun v i wr => ∃ j : Nat, j ≤ ne ∧ i = .int .i64 j ∧ Hid (OwnEx wr g v ((es.take j).map (copyE · deep))) ∧ Hid (Below g X wr) ∧ g < wr.heap.size) (fun _ i _ => ne - (intOf i).toNat)
    case atStart => exact ⟨0, Nat.zero_le _, rfl, HXO, Lib.hid (Below.refl _ _), by have := HXS.out; omega⟩
    case round =>
      obtain ⟨wo, rfl⟩ : ∃ wo : World, wo = wr := ⟨_, rfl⟩
      obtain ⟨j, hj, rfl, HO, HBL, hws⟩ := hrel
      by_cases hlt : j < ne
      · have hje : j < es.length := by rw [← HNE.out]; exact hlt
        obtain ⟨b, off, rfl, hbB, hnm, p0, p1, p2, p3, p4⟩ := HHA.out j hje
        have hbw : Below B w0 wo := HB0.out.trans ((HXB.out.trans HBL.out).mono (by rw [HG.out]; exact hB))
        have hsx : B ≤ wo.heap.size := by have := HG.out; omega
        have hsmj := smallE_args (smallEs_get HSM.out j hje)
        have hcc := copy_any (HR.out j hje) hsmj.2.2 hsmj.2.1 es[j].kind es[j].pl es[j].num deep (strOf es[j].name) wo hbw hsx (by omega) (by omega)
        have r0 := (hbw.cell (p := ⟨b, off + j * 5, none⟩) hbB).trans p0
        have r1 := (hbw.cell (p := ⟨b, off + j * 5 + 1, none⟩) hbB).trans p1
        have r2 := (hbw.cell (p := ⟨b, off + j * 5 + 2, none⟩) hbB).trans p2
        have r3 := (hbw.cell (p := ⟨b, off + j * 5 + 3, none⟩) hbB).trans p3
        have r4 := (hbw.cell (p := ⟨b, off + j * 5 + 4, none⟩) hbB).trans p4
        have hct := map_take (copyE · deep) hje
        obtain ⟨e1, e2, e3, e4, e5⟩ := copyE_args es[j] deep
        obtain ⟨Y, hY⟩ : ∃ Y, Y = copyE es[j] deep := ⟨_, rfl⟩
        rw [← hY] at e1 e2 e3 e4 e5 hct
        rw [← e5] at hcc
        rw [← e4] at r3 hcc hnm
        rw [← e3] at r2 hcc
        rw [← e2] at r1 hcc
        rw [← e1] at r0 hcc
        obtain ⟨yk, hyk⟩ : ∃ x, x = Y.kind := ⟨_, rfl⟩
        obtain ⟨yp, hyp⟩ : ∃ x, x = Y.pl := ⟨_, rfl⟩
        obtain ⟨yn, hyn⟩ : ∃ x, x = Y.num := ⟨_, rfl⟩
        obtain ⟨ys, hys⟩ : ∃ x, x = strOf Y.name := ⟨_, rfl⟩
        obtain ⟨yv, hyv⟩ : ∃ x, x = f j := ⟨_, rfl⟩
        rw [← hyk, ← hyp, ← hyn, ← hys, ← hyv] at hcc
        rw [← hyk] at r0
        rw [← hyp] at r1
        rw [← hyn] at r2
        rw [← hys] at r3
        rw [← hyv] at r4
        have HCC := Lib.hid hcc
        have HCT := Lib.hid hct
        have hcells : ∀ u, exCells Y u = [.int .i64 yk, .int .i64 yp, .int .i64 yn, .string ys, u] := fun u => by rw [hyk, hyp, hyn, hys]; rfl
        have HCL := Lib.hid hcells
        have hlen : ((es.take j).map (copyE · deep)).length ≤ 1000000 := by
          rw [List.length_map, List.length_take]
          omega
        have HLEN := Lib.hid hlen
        have HNM := Lib.hid hnm
        clear hcc hct hcells hlen hnm hsmj e1 e2 e3 e4 e5 hY hyk hyp hyn hys hyv hbw p0 p1 p2 p3 p4 HHA
        go_wp2_with fail
        refine HCC.out.mono ?_
        rintro e w1 ⟨v1, rfl, hi1, hb1'⟩
        have hs1 := hb1'.size
        have ho1 : OwnEx (w1.alloc (.cells #[.int .i64 yk, .int .i64 yp, .int .i64 yn, .string ys, v1] 40)) g u5 ((es.take j).map (copyE · deep)) := (HO.out.below hb1').below ((Below.refl _ _).alloc (Nat.le_refl _) _)
        have hnew : ∀ q y, (exCells Y v1)[q]? = some y → (w1.alloc (.cells #[.int .i64 yk, .int .i64 yp, .int .i64 yn, .string ys, v1] 40)).cell? ((⟨w1.heap.size, 0, none⟩ : Addr).add q) = some y := fun q y hq => by
          rw [HCL.out] at hq
          rw [add_pl, Nat.zero_add, cell_of_row _ _ q _ _ (0, 0) (heap_alloc_new w1 _)]
          simpa using hq
        have hun : IsExs (w1.alloc (.cells #[.int .i64 yk, .int .i64 yp, .int .i64 yn, .string ys, v1] 40)) (fun b => g ≤ b ∧ b < (w1.alloc (.cells #[.int .i64 yk, .int .i64 yp, .int .i64 yn, .string ys, v1] 40)).heap.size ∧ u5.ownBlock ≠ some b) Y.args v1 := by
          obtain ⟨fs, _, hrow, _⟩ := HO.out
          refine hi1.keep (fun b hb2 => ((Below.refl _ w1).alloc (Nat.le_refl _) _).block b hb2.2) (fun b hb2 => ⟨by omega, by simp; omega, fun e => ?_⟩)
          have := (hrow.lt b e).2
          omega
        have HO1 := Lib.hid ho1
        have HNEW := Lib.hid hnew
        have HUN := Lib.hid hun
        have HB1 := Lib.hid hb1'
        have hcell := hi1.one
        clear ho1 hnew hun hi1 hb1'
        go_wp2_with (first
          | (at_builtin; refine wpList_append_ex rfl _ _ rfl g u5 ((es.take j).map (copyE · deep)) rfl HO1.out ⟨w1.heap.size, 0, none⟩ 1 Y v1 rfl HNEW.out HUN.out HNM.out HLEN.out (by simp; omega) ?_; intro v' w3 hown3 hgr))
        go_roundw
        case rel =>
          have hb3 := (((HBL.out.trans (HB1.out.mono (by omega))).alloc (B := g) (by omega) (.cells #[.int .i64 yk, .int .i64 yp, .int .i64 yn, .string ys, v1] 40))).grown hgr (by simp; omega) (fun q hq => by
            obtain ⟨fs, _, hrow, _⟩ := HO.out
            exact (hrow.lt q hq).1)
          exact ⟨j + 1, by omega, by go_num, Lib.hid (by rw [HCT.out]; exact hown3), Lib.hid hb3, by have h1 := hb3.size; have h2 := HXS.out; omega⟩
        case measure => simp [intOf]; omega
      · have hall : es.take j = es := List.take_of_length_le (by rw [← HNE.out]; omega)
        rw [hall] at HO
        have hfin : IsExs wo (fun b => w.heap.size ≤ b ∧ b < wo.heap.size) (es.map (copyE · deep)) u5 := by rw [← HG.out]; exact HO.out.exs
        have hend : Below w.heap.size w wo := by rw [← HG.out]; exact HXB.out.trans HBL.out
        clear hall HHA
        go_wp2
        go_ret
        exact ⟨_, rfl, hfin, hend⟩
end Go.Proofs.YtjpphbjnakalhaaDoor
end
section
set_option linter.unusedVariables false
namespace Go.Proofs.YtjpphbjnakalhaaDoor
open Go.RowKit
inductive Sm where
  | mk (kind pl : Int) (name type : List UInt8) (exprs : List Ex) (body els : List Sm)
def Sm.kind : Sm → Int | .mk k _ _ _ _ _ _ => k
def Sm.pl : Sm → Int | .mk _ p _ _ _ _ _ => p
def Sm.name : Sm → List UInt8 | .mk _ _ n _ _ _ _ => n
def Sm.type : Sm → List UInt8 | .mk _ _ _ t _ _ _ => t
def Sm.exprs : Sm → List Ex | .mk _ _ _ _ e _ _ => e
def Sm.body : Sm → List Sm | .mk _ _ _ _ _ b _ => b
def Sm.els : Sm → List Sm | .mk _ _ _ _ _ _ l => l
inductive IsSms (w : World) (S : Nat → Prop) : List Sm → Value → Prop
  | mk (ss : List Sm) (A : Option Addr) (c : Nat) (fe fb fl : Nat → Value) (hc : ss.length ≤ c) (hM : c ≤ 9223372036854775807)
    (hA : ∀ (k : Nat) (hk : k < ss.length), ∃ b off, A = some ⟨b, off, none⟩ ∧ S b ∧ ss[k].name.length ≤ 140737488355328 ∧ ss[k].type.length ≤ 140737488355328 ∧
      w.cell? ⟨b, off + k * 7, none⟩ = some (.int .i64 ss[k].kind) ∧ w.cell? ⟨b, off + k * 7 + 1, none⟩ = some (.int .i64 ss[k].pl) ∧
      w.cell? ⟨b, off + k * 7 + 2, none⟩ = some (.string (strOf ss[k].name)) ∧ w.cell? ⟨b, off + k * 7 + 3, none⟩ = some (.string (strOf ss[k].type)) ∧
      w.cell? ⟨b, off + k * 7 + 4, none⟩ = some (fe k) ∧ w.cell? ⟨b, off + k * 7 + 5, none⟩ = some (fb k) ∧ w.cell? ⟨b, off + k * 7 + 6, none⟩ = some (fl k))
    (he : ∀ (k : Nat) (hk : k < ss.length), IsExs w S ss[k].exprs (fe k)) (hb : ∀ (k : Nat) (hk : k < ss.length), IsSms w S ss[k].body (fb k)) (hl : ∀ (k : Nat) (hk : k < ss.length), IsSms w S ss[k].els (fl k)) :
    IsSms w S ss (.slice A ss.length c)
theorem IsSms.keep {w w' : World} {S S' : Nat → Prop} {ss : List Sm} {v : Value} (h : IsSms w S ss v) (hw : ∀ b, S b → w'.heap[b]? = w.heap[b]?) (hS : ∀ b, S b → S' b) : IsSms w' S' ss v := by
  induction h with
  | mk ss A c fe fb fl hc hM hA he hb hl ihb ihl =>
    refine .mk ss A c fe fb fl hc hM (fun k hk => ?_) (fun k hk => (he k hk).keep hw hS) (fun k hk => ihb k hk) (fun k hk => ihl k hk)
    obtain ⟨b, off, h1, h2, h3, h4, c0, c1, c2, c3, c4, c5, c6⟩ := hA k hk
    have hcell : ∀ i, w'.cell? ⟨b, i, none⟩ = w.cell? ⟨b, i, none⟩ := fun i => World.cell?_of_block (hw b h2)
    exact ⟨b, off, h1, hS b h2, h3, h4, by rw [hcell]; exact c0, by rw [hcell]; exact c1, by rw [hcell]; exact c2, by rw [hcell]; exact c3, by rw [hcell]; exact c4, by rw [hcell]; exact c5, by rw [hcell]; exact c6⟩
theorem IsSms.slice {w : World} {S : Nat → Prop} {ss : List Sm} {v : Value} (h : IsSms w S ss v) : ∃ A c, v = .slice A ss.length c ∧ ss.length ≤ c ∧ c ≤ 9223372036854775807 := by
  cases h with
  | mk ss A c fe fb fl hc hM => exact ⟨A, c, rfl, hc, hM⟩
theorem IsExs.slice {w : World} {S : Nat → Prop} {es : List Ex} {v : Value} (h : IsExs w S es v) : ∃ A c, v = .slice A es.length c ∧ es.length ≤ c ∧ c ≤ 9223372036854775807 := by
  cases h with
  | mk es A c f hc hM => exact ⟨A, c, rfl, hc, hM⟩
mutual
def goS : Sm → Int → Int → Int → Int
  | .mk _ _ nm ty ex bd el, n, most, deep =>
    let n2 := weighs ex (n + (1 + (nm.length : Int) + (ty.length : Int))) most 61
    let n3 := if n2 ≤ most then n2 + (if deep - 1 = 0 ∧ 0 < bd.length then most - n2 + 1 else goB bd 0 (most - n2) (deep - 1)) else n2
    if n3 ≤ most then n3 + (if deep - 1 = 0 ∧ 0 < el.length then most - n3 + 1 else goB el 0 (most - n3) (deep - 1)) else n3
def goB : List Sm → Int → Int → Int → Int
  | [], n, _, _ => n
  | s :: ss, n, most, deep => if n ≤ most then goB ss (goS s n most deep) most deep else n
end
def weighB (ss : List Sm) (most deep : Int) : Int := if deep = 0 ∧ 0 < ss.length then most + 1 else goB ss 0 most deep
theorem goS_eq (s : Sm) (n most deep : Int) {n2 n3 : Int} (h2 : n2 = weighs s.exprs (n + (1 + (s.name.length : Int) + (s.type.length : Int))) most 61)
    (h3 : n3 = if n2 ≤ most then n2 + weighB s.body (most - n2) (deep - 1) else n2) : goS s n most deep = if n3 ≤ most then n3 + weighB s.els (most - n3) (deep - 1) else n3 := by
  subst h2
  subst h3
  cases s
  rw [goS]
  rfl
theorem goB_go {s : Sm} {ss : List Sm} {n most deep : Int} (h : n ≤ most) : goB (s :: ss) n most deep = goB ss (goS s n most deep) most deep := by
  rw [goB, if_pos h]
theorem goB_stop (ss : List Sm) (n most deep : Int) (h : ¬ n ≤ most) : goB ss n most deep = n := by
  cases ss with
  | nil => rw [goB]
  | cons s ss => rw [goB, if_neg h]
def WeighEls (w0 : World) (B : Nat) (es : List Ex) (A : Option Addr) : Prop := ∀ (j : Nat) (hj : j < es.length), ∃ b off yk yp yn ys yv, A = some ⟨b, off, none⟩ ∧ b < B ∧
    w0.cell? ⟨b, off + j * 5, none⟩ = some (.int .i64 yk) ∧ w0.cell? ⟨b, off + j * 5 + 1, none⟩ = some (.int .i64 yp) ∧ w0.cell? ⟨b, off + j * 5 + 2, none⟩ = some (.int .i64 yn) ∧ w0.cell? ⟨b, off + j * 5 + 3, none⟩ = some (.string ys) ∧ w0.cell? ⟨b, off + j * 5 + 4, none⟩ = some yv ∧
    ∀ (m d : Int) (w : World), Below B w0 w → B ≤ w.heap.size → 0 ≤ m → m ≤ 100000 → 0 ≤ d → d ≤ 100000 →
      Calls Tryd.prog 17 #[.agg #[.int .i64 yk, .int .i64 yp, .int .i64 yn, .string ys, yv], .int .i64 m, .int .i64 d] w (WeighPost w (weigh es[j] m d)) ∧ 0 ≤ weigh es[j] m d ∧ weigh es[j] m d ≤ m + 140737488355330
theorem weigh_at {w0 : World} {B : Nat} {es : List Ex} {v : Value} (h : IsExs w0 (· < B) es v) : ∃ A c, v = .slice A es.length c ∧ es.length ≤ c ∧ c ≤ 9223372036854775807 ∧ WeighEls w0 B es A := by
  cases h with
  | mk es A c f hc hM hA hr =>
    refine ⟨A, c, rfl, hc, hM, fun j hj => ?_⟩
    obtain ⟨b, off, h1, h2, h3, h4, h5, h6, h7, h8⟩ := hA j hj
    refine ⟨b, off, _, _, _, _, _, h1, h2, h4, h5, h6, h7, h8, fun m d w a1 a2 a3 a4 a5 a6 => ?_⟩
    have := weigh_any (hr j hj) es[j].kind es[j].pl es[j].num m d es[j].name w a1 a2 h3 a3 a4 a5 a6
    rw [Ex.eta] at this
    exact this
end Go.Proofs.YtjpphbjnakalhaaDoor
end
