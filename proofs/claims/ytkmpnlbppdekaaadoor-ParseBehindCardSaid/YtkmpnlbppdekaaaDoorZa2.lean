/- Ae Ag Ah Ai Ax Aj -/
import Derived.Test.YtkmpnlbppdekaaaDoorZa1
import Derived.StillTailTactics
import Derived.IntWalk
import Derived.Shelf.Strconv.Atoi
import Derived.Test.YtkmpnlbppdekaaaDoorRows
import Derived.Lib.AtoiErrMem
section
set_option linter.unusedVariables false
namespace Go.Proofs.YtkmpnlbppdekaaaDoor
open Go.RowKit
theorem set_row1 {w : World} {R : Nat} {v : Value} {t : TypeId} (h : w.heap[R]? = some (.cells #[v] t (0, 0))) (u : Value) : (w.setCell ⟨R, 0, none⟩ u).heap[R]? = some (.cells #[u] t (0, 0)) := by
  simp [World.setCell, Array.getElem?_modify, h]
theorem pop_any {w : World} {B R L : Nat} {t : Tok} {r : List Tok} (h : RdAt w B R L (t :: r)) (hB : B ≤ w.heap.size) :
    Calls Tryd.prog 32 #[.pointer (some ⟨R, 0, none⟩)] w fun e w' => e = .returned (.agg #[.int .i64 (t.kind : Nat), .string (strOf t.text), .int .i64 (t.pl : Nat)]) ∧ RdAt w' B R L r ∧ Chg (fun b => b = R) w w' := by
  obtain ⟨tb, off, c, n, hn, h1, h2, h3, h4, h5, h6, k0, k1, k2⟩ := h.head
  have c0 := cell_of_row w R 0 _ _ (0, 0) h1
  simp at c0
  have z0 := frozen_of_row w R 0 _ _ h1
  have az := alloc_frozen c0 z0
  obtain rfl : n = r.length + 1 := hn
  have hc1 : ¬ c - 1 = 0 := by omega
  have e0 : kd (t :: r) = t.kind := rfl
  have e1 : tx (t :: r) = t.text := rfl
  have e2 : plc L (t :: r) = t.pl := rfl
  rw [e0] at k0
  rw [e1] at k1
  rw [e2] at k2
  obtain ⟨n, hn⟩ : ∃ n, n = r.length := ⟨_, rfl⟩
  rw [← hn] at h1 h2 c0
  have HH := Lib.hid h
  have H1 := Lib.hid h1
  have HNN := Lib.hid hn
  obtain ⟨X, hX⟩ : ∃ X : World, X = w.alloc (.cells #[.int .i64 0, .string ⟨#[]⟩, .int .i64 0] 51) := ⟨_, rfl⟩
  obtain ⟨g, hg⟩ : ∃ g, g = w.heap.size := ⟨_, rfl⟩
  have hsx : X.heap.size = g + 1 := by rw [hX, hg]; simp
  have x0 : X.cell? ⟨R, 0, none⟩ = some (.slice (some ⟨tb, off, none⟩) (n + 1 + 1) c) := by rw [hX]; exact alloc_cell c0 _
  have xz : X.frozen? ⟨R, 0, none⟩ = false := by rw [hX]; exact az _
  have x1 : X.cell? ⟨tb, off, none⟩ = some (.int .i64 (t.kind : Nat)) := by rw [hX]; exact alloc_cell k0 _
  have x2 : X.cell? ⟨tb, off + 1, none⟩ = some (.string (strOf t.text)) := by rw [hX]; exact alloc_cell k1 _
  have x3 : X.cell? ⟨tb, off + 2, none⟩ = some (.int .i64 (t.pl : Nat)) := by rw [hX]; exact alloc_cell k2 _
  have hgr : X.heap[g]? = some (.cells #[.int .i64 0, .string ⟨#[]⟩, .int .i64 0] 51 (0, 0)) := by rw [hX, hg]; exact tok_row _ _ _ _
  have hRg : R < g := by rw [hg]; exact lt_of_cell c0
  obtain ⟨Y, hY⟩ : ∃ Y : World, Y = X.alloc (.cells #[.int .i64 (t.kind : Nat), .string (strOf t.text), .int .i64 (t.pl : Nat)] 51) := ⟨_, rfl⟩
  have y0 : Y.cell? ⟨R, 0, none⟩ = some (.slice (some ⟨tb, off, none⟩) (n + 1 + 1) c) := by rw [hY]; exact alloc_cell x0 _
  have yz : Y.frozen? ⟨R, 0, none⟩ = false := by rw [hY]; exact alloc_frozen x0 xz _
  have yr : Y.heap[g + 1]? = some (.cells #[.int .i64 (t.kind : Nat), .string (strOf t.text), .int .i64 (t.pl : Nat)] 51 (0, 0)) := by rw [hY, ← hsx]; exact tok_row _ _ _ _
  have yg : Y.heap[g]? = some (.cells #[.int .i64 0, .string ⟨#[]⟩, .int .i64 0] 51 (0, 0)) := by rw [hY, Below.heap_alloc _ _ _ (by omega)]; exact hgr
  have hby : Below w.heap.size w Y := by rw [hY]; exact ((by rw [hX]; exact below_new _ _ : Below w.heap.size w X)).alloc (by rw [hsx, ← hg]; omega) _
  obtain ⟨Z, hZ⟩ : ∃ Z : World, Z = Y.setCell ⟨R, 0, none⟩ (.slice (some ⟨tb, off + 3, none⟩) (n + 1) (c - 1)) := ⟨_, rfl⟩
  have zr : Z.heap[g + 1]? = some (.cells #[.int .i64 (t.kind : Nat), .string (strOf t.text), .int .i64 (t.pl : Nat)] 51 (0, 0)) := by rw [hZ, Below.heap_setCell _ _ _ _ (by simp; omega)]; exact yr
  have zg : Z.heap[g]? = some (.cells #[.int .i64 0, .string ⟨#[]⟩, .int .i64 0] 51 (0, 0)) := by rw [hZ, Below.heap_setCell _ _ _ _ (by simp; omega)]; exact yg
  have z0 : Z.cell? ⟨g + 1, 0, none⟩ = some (.int .i64 (t.kind : Nat)) := by rw [cell_of_row Z _ 0 _ _ (0, 0) zr]; rfl
  have z1 : Z.cell? ⟨g + 1, 1, none⟩ = some (.string (strOf t.text)) := by rw [cell_of_row Z _ 1 _ _ (0, 0) zr]; rfl
  have z2 : Z.cell? ⟨g + 1, 2, none⟩ = some (.int .i64 (t.pl : Nat)) := by rw [cell_of_row Z _ 2 _ _ (0, 0) zr]; rfl
  have f0 : Z.frozen? ⟨g, 0, none⟩ = false := frozen_of_row Z g 0 _ _ zg
  have f1 : Z.frozen? ⟨g, 1, none⟩ = false := frozen_of_row Z g 1 _ _ zg
  have f2 : Z.frozen? ⟨g, 2, none⟩ = false := frozen_of_row Z g 2 _ _ zg
  have m0 : Z.cell? ⟨g, 0, none⟩ = some (.int .i64 0) := by rw [cell_of_row Z _ 0 _ _ (0, 0) zg]; rfl
  have m1 : Z.cell? ⟨g, 1, none⟩ = some (.string ⟨#[]⟩) := by rw [cell_of_row Z _ 1 _ _ (0, 0) zg]; rfl
  have m2 : Z.cell? ⟨g, 2, none⟩ = some (.int .i64 0) := by rw [cell_of_row Z _ 2 _ _ (0, 0) zg]; rfl
  have HFIN : Hid (∀ w', Below w.heap.size Z w' → RdAt w' B R L r ∧ Chg (fun b => b = R) w w') := Lib.hid fun w' hb => by
    have hk : ∀ b, b < w.heap.size → b ≠ R → w'.heap[b]? = w.heap[b]? := fun b hlt hne => (hb.block b hlt).trans (by rw [hZ, Below.heap_setCell _ _ _ _ (by simpa using hne)]; exact hby.block b hlt)
    refine ⟨RdAt.popped h h1 ?_ fun b hlt hne => hk b (by omega) hne, ⟨?_, ?_, ?_, ?_, fun k hlt hn => hk k hlt hn⟩⟩
    · rw [← hn, hb.block R (by rw [← hg]; exact hRg), hZ]
      exact set_row1 ((hby.block R (by rw [← hg]; exact hRg)).trans h1) _
    · rw [hb.os, hZ]; exact hby.os
    · rw [hb.tape, hZ]; exact hby.tape
    · rw [hb.output, hZ]; exact hby.output
    · have := hb.size; have := hby.size; rw [hZ] at *; simp [World.setCell] at *; omega
  clear h h1 hn e0 e1 e2 c0 k0 k1 k2 az hby hgr yr yg zr zg xz hRg
  subst hZ hY hX hg
  go_enter Tryd.func32, Tryd.ntmps32
  go_wp2
  refine bodyPost_ret (v := .agg #[.int .i64 (t.kind : Nat), .string (strOf t.text), .int .i64 (t.pl : Nat)]) ?_ rfl ⟨rfl, HFIN.out _ ?_⟩
  · simp [results, Tryd.results32, go_sem, m0, m1, m2]
  · refine Below.setCell ?_ (by simp) _
    refine Below.setCell ?_ (by simp) _
    refine Below.setCell ?_ (by simp) _
    exact Below.refl _ _
theorem isName_any {w : World} {B R L : Nat} {us : List Tok} (h : RdAt w B R L us) :
    Calls Tryd.prog 39 #[.pointer (some ⟨R, 0, none⟩)] w fun e w' => e = .returned (.bool (decide (kd us = 1))) ∧ Below w.heap.size w w' := by
  have HN := Lib.hid (next_any h)
  have hf := tokF0
  have hd : decide (kd us = 1) = decide (((kd us : Nat) : Int) = 1) := by
    by_cases h : kd us = 1
    · simp [h]
    · simp [h]; omega
  rw [hd]
  obtain ⟨K, hK⟩ : ∃ K : Int, K = (kd us : Nat) := ⟨_, rfl⟩
  obtain ⟨P, hP⟩ : ∃ P : Int, P = (plc L us : Nat) := ⟨_, rfl⟩
  rw [← hK, ← hP] at HN
  rw [← hK]
  clear hK hP h hd
  go_enter Tryd.func39, Tryd.ntmps39
  go_wp2_with fail
  refine HN.out.mono ?_
  rintro e w1 ⟨rfl, hb⟩
  have HB := Lib.hid hb
  clear hb
  go_wp2
  go_ret
  exact ⟨by by_cases h : K = 1 <;> simp [h], HB.out⟩
theorem chg_below {w w1 w' : World} {P : Nat → Prop} (hb : Below w.heap.size w w1) (hc : Chg P w1 w') : Chg P w w' := (Chg.of_below (P := P) hb).trans hc fun _ _ h => h
theorem nameR_any {w : World} {B R L : Nat} {us : List Tok} (h : RdAt w B R L us) (hB : B ≤ w.heap.size) :
    Calls Tryd.prog 47 #[.pointer (some ⟨R, 0, none⟩)] w (RdPost StrV w B R L (nameM L us)) := by
  have HI := Lib.hid (isName_any h)
  have HH := Lib.hid h
  have hf := tokF1
  by_cases hk : kd us = 1
  · match us, hk with
    | t :: r, hk =>
      have HM : Hid (nameM L (t :: r) = .ok t.text r) := Lib.hid (by rw [nameM, if_pos (show t.kind = 1 from hk)])
      have HLN := Lib.hid ((h.ok t (by simp)).2.1)
      have hd : decide (kd (t :: r) = 1) = true := by simpa using hk
      rw [hd] at HI
      clear h hk hd
      go_enter Tryd.func47, Tryd.ntmps47
      go_wp2_with fail
      refine HI.out.mono ?_
      rintro e w1 ⟨rfl, hb⟩
      have HB := Lib.hid hb
      clear hb
      go_wp2_with fail
      refine (mustP_yes _ _ _).mono ?_
      rintro e w2 ⟨rfl, rfl⟩
      go_wp2_with fail
      refine (pop_any (HH.out.below' hB HB.out) (Nat.le_trans hB HB.out.size)).mono ?_
      rintro e w2 ⟨rfl, hr, hc⟩
      have HR := Lib.hid hr
      have HC := Lib.hid (chg_below HB.out hc)
      clear hr hc
      obtain ⟨K, hK⟩ : ∃ K : Int, K = (t.kind : Nat) := ⟨_, rfl⟩
      obtain ⟨P, hP⟩ : ∃ P : Int, P = (t.pl : Nat) := ⟨_, rfl⟩
      rw [← hK, ← hP]
      clear hK hP
      go_wp2
      go_ret
      rw [HM.out]
      exact ⟨⟨_, rfl, rfl, HLN.out⟩, HR.out, HC.out⟩
  · have HM : Hid (nameM L us = .bad (plc L us) 20) := Lib.hid (by
      cases us with
      | nil => rfl
      | cons t r => rw [nameM, if_neg (show ¬ t.kind = 1 from hk)]; rfl)
    have hd : decide (kd us = 1) = false := by simpa using hk
    rw [hd] at HI
    clear h hk hd
    go_enter Tryd.func47, Tryd.ntmps47
    go_wp2_with fail
    refine HI.out.mono ?_
    rintro e w1 ⟨rfl, hb⟩
    have HB := Lib.hid hb
    clear hb
    go_wp2_with fail
    refine (mustP_no (HH.out.below' hB HB.out) 20).mono ?_
    rintro e w2 ⟨rfl, hb⟩
    have HB2 := Lib.hid (HB.out.trans (hb.mono HB.out.size))
    clear hb
    unfold thrown
    go_wp2
    rw [HM.out]
    exact ⟨rfl, rfl, Chg.of_below HB2.out⟩
end Go.Proofs.YtkmpnlbppdekaaaDoor
end
section
set_option linter.unusedVariables false
set_option linter.unusedSimpArgs false
namespace Go.Proofs.YtkmpnlbppdekaaaDoor
open Go.RowKit
theorem contains_tx (l : List (List UInt8)) (s : List UInt8) : Lib.containsS (l.map strOf) (strOf s) = decide (s ∈ l) := by
  rw [Bool.eq_iff_iff, Lib.containsS_iff, decide_eq_true_eq, List.mem_map]
  constructor
  · rintro ⟨a, ha, he⟩
    have := congrArg (fun x => x.data.toList) he
    have : a = s := this
    rw [← this]; exact ha
  · intro h; exact ⟨s, h, rfl⟩
theorem row3 {w : World} {g : Nat} {a b c : Value} {t : TypeId} (h : w.heap[g]? = some (.cells #[a, b, c] t (0, 0))) :
    w.cell? ⟨g, 0, none⟩ = some a ∧ w.cell? ⟨g, 1, none⟩ = some b ∧ w.cell? ⟨g, 2, none⟩ = some c ∧ w.frozen? ⟨g, 0, none⟩ = false ∧ w.frozen? ⟨g, 1, none⟩ = false ∧ w.frozen? ⟨g, 2, none⟩ = false :=
  ⟨by rw [cell_of_row w g 0 _ _ (0, 0) h]; rfl, by rw [cell_of_row w g 1 _ _ (0, 0) h]; rfl, by rw [cell_of_row w g 2 _ _ (0, 0) h]; rfl, frozen_of_row w g 0 _ _ h, frozen_of_row w g 1 _ _ h, frozen_of_row w g 2 _ _ h⟩
theorem Chg.row {w w' : World} {R g : Nat} {o : Obj} (h : Chg (fun b => b = R) w w') (hg : w.heap[g]? = some o) (hne : g ≠ R) : w'.heap[g]? = some o := (h.block g (lt_of_heap hg) hne).trans hg
theorem chg_set {w w1 : World} {R : Nat} (h : Chg (fun b => b = R) w w1) {p : Addr} (hp : w.heap.size ≤ p.block) (u : Value) : Chg (fun b => b = R) w (w1.setCell p u) := h.setCell p u fun e => by omega
theorem rd_set {w : World} {B R L : Nat} {us : List Tok} (h : RdAt w B R L us) {p : Addr} (hp : B ≤ p.block) (u : Value) : RdAt (w.setCell p u) B R L us := h.setCell p u hp
set_option maxRecDepth 100000 in
theorem take_new {w : World} {B R L : Nat} {us : List Tok} (h : RdAt w B R L us) (hB : B ≤ w.heap.size) (ts : List (List UInt8)) (hn : ts.length ≤ 1000) (hne : [] ∉ ts) :
    Calls Tryd.prog 17 #[.pointer (some ⟨R, 0, none⟩), .slice (some ⟨w.heap.size, 0, none⟩) ts.length ts.length] (w.alloc (.cells (strCells ts) 9)) (RdPost TokV w B R L (takeM L ts us)) := by
  obtain ⟨X, hX⟩ : ∃ X : World, X = w.alloc (.cells (strCells ts) 9) := ⟨_, rfl⟩
  obtain ⟨Y, hY⟩ : ∃ Y : World, Y = X.alloc (.cells #[.int .i64 0, .string ⟨#[]⟩, .int .i64 0] 51) := ⟨_, rfl⟩
  have hbX : Below w.heap.size w X := by rw [hX]; exact below_new _ _
  have hbXY : Below X.heap.size X Y := by rw [hY]; exact below_new _ _
  have hbY : Below w.heap.size w Y := hbX.trans (hbXY.mono hbX.size)
  have hXs : X.heap[w.heap.size]? = some (.cells (strCells ts) 9 (0, 0)) := by rw [hX]; exact heap_alloc_new _ _
  have hYs := (hbXY.block _ (lt_of_heap hXs)).trans hXs
  have hYg : Y.heap[X.heap.size]? = some (.cells #[.int .i64 0, .string ⟨#[]⟩, .int .i64 0] 51 (0, 0)) := by rw [hY]; exact tok_row _ _ _ _
  have hRY := h.below' hB hbY
  have hBY : B ≤ Y.heap.size := Nat.le_trans hB hbY.size
  have HNX := Lib.hid (next_any hRY)
  have HCON : Hid (∀ wx, Below Y.heap.size Y wx → Calls Tryd.prog 31 #[.slice (some ⟨w.heap.size, 0, none⟩) ts.length ts.length, .string (strOf (tx us))] wx fun e w' => e = .returned (.bool (decide (tx us ∈ ts))) ∧ w' = wx) := Lib.hid fun wx hb => by
    have hx := (hb.block _ (lt_of_heap hYs)).trans hYs
    have := slices_Contains_string w.heap.size 0 ts.length ts.length (ts.map strOf) (strOf (tx us)) wx (by simp) (by omega) (fun j hj => by
      rw [Nat.zero_add, cell_of_row _ _ j _ _ (0, 0) hx]
      simp only [List.length_map] at hj
      simp [strCells, List.getElem?_eq_getElem hj])
    rw [List.take_of_length_le (by simp), contains_tx] at this
    exact this
  have HRY := Lib.hid hRY
  have HBB := Lib.hid hBY
  have HY0 := Lib.hid hbY
  have HG := Lib.hid hYg
  have HXB := Lib.hid hbX
  have hf := tokF1
  have hgR : X.heap.size ≠ R := fun e => by have := h.lt; have := hbX.size; omega
  have HGR := Lib.hid hgR
  have hX1 := Lib.hid hX
  have hY1 := Lib.hid hY
  obtain ⟨K, hK⟩ : ∃ K : Int, K = (kd us : Nat) := ⟨_, rfl⟩
  obtain ⟨P, hP⟩ : ∃ P : Int, P = (plc L us : Nat) := ⟨_, rfl⟩
  rw [← hK, ← hP] at HNX
  have hBw : B ≤ X.heap.size := Nat.le_trans hB hbX.size
  have HBX := Lib.hid hBw
  rw [← hX]
  by_cases hm : tx us ∈ ts
  · match us, hm with
    | [], hm => exact absurd hm hne
    | t :: r, hm =>
      have HM : Hid (takeM L ts (t :: r) = .ok t r) := Lib.hid (by rw [takeM, if_pos (show t.text ∈ ts from hm)])
      have HOK := Lib.hid (h.ok t (by simp))
      have hd : decide (tx (t :: r) ∈ ts) = true := decide_eq_true hm
      rw [hd] at HCON
      clear hX hY hbX hbXY hbY hXs hYs hYg hRY hBY hK hP hgR h hd hm hBw hne
      go_enter Tryd.func17, Tryd.ntmps17
      go_wp2_with fail
      rw [← hY1.out]
      refine HNX.out.mono ?_
      rintro e w1 ⟨rfl, hb⟩
      have HB1 := Lib.hid hb
      clear hb
      go_wp2_with fail
      refine (HCON.out w1 HB1.out).mono ?_
      rintro e w2 ⟨rfl, rfl⟩
      go_wp2_with fail
      refine (mustP_yes _ _ _).mono ?_
      rintro e w2 ⟨rfl, rfl⟩
      go_wp2_with fail
      refine (pop_any (HRY.out.below' HBB.out HB1.out) (Nat.le_trans HBB.out HB1.out.size)).mono ?_
      rintro e w2 ⟨rfl, hr, hc⟩
      obtain ⟨m0, m1, m2, f0, f1, f2⟩ := row3 (hc.row ((HB1.out.block _ (lt_of_heap HG.out)).trans HG.out) HGR.out)
      have HR := Lib.hid hr
      have HC := Lib.hid (chg_below (HY0.out.trans (HB1.out.mono HY0.out.size)) hc)
      clear hr hc
      go_wp2
      refine bodyPost_ret (v := .agg #[.int .i64 (t.kind : Nat), .string (strOf t.text), .int .i64 (t.pl : Nat)]) ?_ rfl ?_
      · simp [results, Tryd.results17, go_sem, m0, m1, m2]
      · rw [HM.out]
        exact ⟨⟨_, rfl, rfl, HOK.out⟩, rd_set (rd_set (rd_set HR.out HBX.out _) HBX.out _) HBX.out _, chg_set (chg_set (chg_set HC.out HXB.out.size _) HXB.out.size _) HXB.out.size _⟩
  · have HM : Hid (takeM L ts us = .bad (plc L us) 20) := Lib.hid (by
      cases us with
      | nil => rfl
      | cons t r => rw [takeM, if_neg (show ¬ t.text ∈ ts from hm)]; rfl)
    have hd : decide (tx us ∈ ts) = false := decide_eq_false hm
    rw [hd] at HCON
    clear hX hY hbX hbXY hbY hXs hYs hYg hRY hBY hK hP hgR h hd hm hBw hne
    go_enter Tryd.func17, Tryd.ntmps17
    go_wp2_with fail
    rw [← hY1.out]
    refine HNX.out.mono ?_
    rintro e w1 ⟨rfl, hb⟩
    have HB1 := Lib.hid hb
    clear hb
    go_wp2_with fail
    refine (HCON.out w1 HB1.out).mono ?_
    rintro e w2 ⟨rfl, rfl⟩
    go_wp2_with fail
    refine (mustP_no (HRY.out.below' HBB.out HB1.out) 20).mono ?_
    rintro e w2 ⟨rfl, hb⟩
    have HB2 := Lib.hid (HY0.out.trans ((HB1.out.trans (hb.mono HB1.out.size)).mono HY0.out.size))
    clear hb
    unfold thrown
    go_wp2
    rw [HM.out]
    exact ⟨rfl, rfl, Chg.of_below HB2.out⟩
end Go.Proofs.YtkmpnlbppdekaaaDoor
end
section
set_option linter.unusedVariables false
set_option linter.unusedSimpArgs false
namespace Go.Proofs.YtkmpnlbppdekaaaDoor
open Go.RowKit
section
variable {α β : Type} {x : Rd α} {a : α} {r : List Tok} {p c : Nat}
theorem bind_ok' {f : α → List Tok → Rd β} (h : x = .ok a r) : x.bind f = f a r := by rw [h]; rfl
theorem bind_bad' {f : α → List Tok → Rd β} (h : x = .bad p c) : x.bind f = .bad p c := by rw [h]; rfl
theorem map_ok' {f : α → β} (h : x = .ok a r) : x.map f = .ok (f a) r := by rw [h]; rfl
theorem map_bad' {f : α → β} (h : x = .bad p c) : x.map f = .bad p c := by rw [h]; rfl
end
theorem Chg.up {P : Nat → Prop} {a b c : World} (h : Chg P a b) (k : Chg P b c) : Chg P a c := h.trans k fun _ _ e => e
theorem skip_any {w : World} {B R L : Nat} {us : List Tok} (h : RdAt w B R L us) (hB : B ≤ w.heap.size) (s : List UInt8) (hs : s ≠ []) :
    Calls Tryd.prog 49 #[.pointer (some ⟨R, 0, none⟩), .string (strOf s)] w fun e w' => e = .returned (.bool (decide (tx us = s))) ∧ RdAt w' B R L (if tx us = s then us.tail else us) ∧ Chg (fun b => b = R) w w' := by
  have HNX := Lib.hid (next_any h)
  have HH := Lib.hid h
  have hf := tokF1
  obtain ⟨K, hK⟩ : ∃ K : Int, K = (kd us : Nat) := ⟨_, rfl⟩
  obtain ⟨P, hP⟩ : ∃ P : Int, P = (plc L us : Nat) := ⟨_, rfl⟩
  rw [← hK, ← hP] at HNX
  by_cases hm : tx us = s
  · match us, hm with
    | [], hm => exact absurd hm.symm hs
    | t :: r, hm =>
      have e1 : ((strOf (tx (t :: r))).toList == (strOf s).toList) = true := by rw [hm]; exact beq_self_eq_true _
      have HE : Hid (decide (tx (t :: r) = s) = true ∧ (if tx (t :: r) = s then (t :: r).tail else t :: r) = r) := Lib.hid ⟨decide_eq_true hm, by rw [if_pos hm]; rfl⟩
      rw [HE.out.1, HE.out.2]
      obtain ⟨T, hT⟩ : ∃ T, T = strOf (tx (t :: r)) := ⟨_, rfl⟩
      obtain ⟨S, hS⟩ : ∃ S, S = strOf s := ⟨_, rfl⟩
      rw [← hT, ← hS] at e1
      rw [← hT] at HNX
      rw [← hS]
      clear hK hP h hm hs hT hS
      go_enter Tryd.func49, Tryd.ntmps49
      go_wp2_with fail
      refine HNX.out.mono ?_
      rintro e w1 ⟨rfl, hb⟩
      have HB1 := Lib.hid hb
      clear hb
      go_wp2_with fail
      refine (pop_any (HH.out.below' hB HB1.out) (Nat.le_trans hB HB1.out.size)).mono ?_
      rintro e w2 ⟨rfl, hr, hc⟩
      have HR := Lib.hid hr
      have HC := Lib.hid (chg_below HB1.out hc)
      clear hr hc
      go_wp2
      go_ret
      exact ⟨rfl, HR.out, HC.out⟩
  · have e1 : ((strOf (tx us)).toList == (strOf s).toList) = false := by
      rw [strOf_toList, strOf_toList]; simpa using hm
    have HE : Hid (decide (tx us = s) = false ∧ (if tx us = s then us.tail else us) = us) := Lib.hid ⟨decide_eq_false hm, by rw [if_neg hm]⟩
    rw [HE.out.1, HE.out.2]
    obtain ⟨T, hT⟩ : ∃ T, T = strOf (tx us) := ⟨_, rfl⟩
    obtain ⟨S, hS⟩ : ∃ S, S = strOf s := ⟨_, rfl⟩
    rw [← hT, ← hS] at e1
    rw [← hT] at HNX
    rw [← hS]
    clear hK hP h hm hs hT hS
    go_enter Tryd.func49, Tryd.ntmps49
    go_wp2_with fail
    refine HNX.out.mono ?_
    rintro e w1 ⟨rfl, hb⟩
    have HB1 := Lib.hid hb
    clear hb
    go_wp2
    go_ret
    exact ⟨rfl, HH.out.below' hB HB1.out, Chg.of_below HB1.out⟩
theorem room_any {w : World} {B R L : Nat} {us : List Tok} (h : RdAt w B R L us) (b : Bool) (x y : Nat) :
    Calls Tryd.prog 38 #[.pointer (some ⟨R, 0, none⟩), .bool b, .int .i64 (x : Nat), .int .i64 (y : Nat)] w (RdPost UnV w B R L (roomM L b x y us)) := by
  have HH := Lib.hid h
  clear h
  cases b with
  | false =>
    have HM : Hid (roomM L false x y us = .bad (plc L us) 20) := Lib.hid rfl
    go_enter Tryd.func38, Tryd.ntmps38
    go_wp2_with fail
    refine (mustP_no HH.out 20).mono ?_
    rintro e w2 ⟨rfl, hb⟩
    have HB2 := Lib.hid hb
    clear hb
    unfold thrown
    go_wp2
    rw [HM.out]
    exact ⟨rfl, rfl, Chg.of_below HB2.out⟩
  | true =>
    by_cases hxy : x < y
    · have HM : Hid (roomM L true x y us = .ok () us) := Lib.hid (by unfold roomM; rw [if_pos rfl, if_pos hxy])
      have hd : (x : Int) < (y : Int) := by omega
      go_enter Tryd.func38, Tryd.ntmps38
      go_wp2_with fail
      refine (mustP_yes _ _ _).mono ?_
      rintro e w2 ⟨rfl, rfl⟩
      go_wp2_with fail
      refine (mustP_yes _ _ _).mono ?_
      rintro e w2 ⟨rfl, rfl⟩
      go_wp2
      go_end0
      rw [HM.out]
      exact ⟨⟨_, rfl, rfl⟩, HH.out, Chg.refl _ _⟩
    · have HM : Hid (roomM L true x y us = .bad (plc L us) 22) := Lib.hid (by unfold roomM; rw [if_pos rfl, if_neg hxy])
      have hd : ¬ (x : Int) < (y : Int) := by omega
      go_enter Tryd.func38, Tryd.ntmps38
      go_wp2_with fail
      refine (mustP_yes _ _ _).mono ?_
      rintro e w2 ⟨rfl, rfl⟩
      go_wp2_with fail
      refine (mustP_no HH.out 22).mono ?_
      rintro e w2 ⟨rfl, hb⟩
      have HB2 := Lib.hid hb
      clear hb
      unfold thrown
      go_wp2
      rw [HM.out]
      exact ⟨rfl, rfl, Chg.of_below HB2.out⟩
theorem commaR_any {w : World} {B R L : Nat} {us : List Tok} (h : RdAt w B R L us) (hB : B ≤ w.heap.size) (x : Nat) :
    Calls Tryd.prog 60 #[.pointer (some ⟨R, 0, none⟩), .int .i64 (x : Nat)] w (RdPost UnV w B R L (commaM L x us)) := by
  have HH := Lib.hid h
  by_cases hx : 0 < x
  · have HM : Hid (commaM L x us = (takeM L [[44]] us).map fun _ => ()) := Lib.hid (by unfold commaM; rw [if_pos hx])
    have hd : (0 : Int) < (x : Int) := by omega
    have HT := Lib.hid (take_new h hB [[44]] (by simp) (by decide))
    clear h hx
    go_enter Tryd.func60, Tryd.ntmps60
    go_wp2_with fail
    refine HT.out.mono ?_
    rintro e w1 hp
    cases hR : takeM L [[44]] us with
    | bad p c =>
      have HM1 := Lib.hid (HM.out.trans (map_bad' hR))
      rw [hR] at hp
      obtain ⟨rfl, hc⟩ := hp
      have HC := Lib.hid hc
      clear hR hc
      unfold thrown
      go_wp2
      rw [HM1.out]
      exact ⟨rfl, rfl, HC.out⟩
    | ok t r =>
      have HM1 := Lib.hid (HM.out.trans (map_ok' hR))
      rw [hR] at hp
      obtain ⟨⟨v, rfl, hv⟩, hr, hc⟩ := hp
      have HR := Lib.hid hr
      have HC := Lib.hid hc
      clear hR hr hc hv
      go_wp2
      go_end0
      rw [HM1.out]
      exact ⟨⟨_, rfl, rfl⟩, HR.out, HC.out⟩
  · have HM : Hid (commaM L x us = .ok () us) := Lib.hid (by unfold commaM; rw [if_neg hx])
    have hd : ¬ (0 : Int) < (x : Int) := by omega
    clear h hx
    go_enter Tryd.func60, Tryd.ntmps60
    go_wp2
    go_end0
    rw [HM.out]
    exact ⟨⟨_, rfl, rfl⟩, HH.out, Chg.refl _ _⟩
end Go.Proofs.YtkmpnlbppdekaaaDoor
end
section
set_option linter.unusedVariables false
set_option linter.unusedSimpArgs false
namespace Go.Proofs.YtkmpnlbppdekaaaDoor
open Go.RowKit
theorem take_text {L : Nat} {T : List (List UInt8)} {us r : List Tok} {t : Tok} (h : takeM L T us = .ok t r) : t.text ∈ T := by
  cases us with
  | nil => cases h
  | cons u s =>
    rw [takeM] at h
    split at h
    · cases h; assumption
    · cases h
theorem str_of {S : ByteArray} {l : List UInt8} (h : S.toList = l) : S = strOf l := by
  rw [← h, ByteArray.toList_eq]; cases S; rfl
theorem name_short {w : World} {B R L : Nat} {us r : List Tok} {s : List UInt8} (h : RdAt w B R L us) (hn : nameM L us = .ok s r) : s.length ≤ 16 := by
  cases us with
  | nil => cases hn
  | cons t u =>
    rw [nameM] at hn
    split at hn
    · rename_i hk
      cases hn
      have := (h.ok t (by simp)).2.2.1 hk
      unfold nameB at this
      exact (of_decide_eq_true this).2.2
    · cases hn
theorem star_str (s : List UInt8) : (⟨#[42]⟩ : ByteArray) ++ strOf s = strOf (42 :: s) := ByteArray.ext (by simp [strOf])
set_option maxRecDepth 100000 in
theorem typesR_any {w : World} {B R L : Nat} {us : List Tok} (h : RdAt w B R L us) (hB : B ≤ w.heap.size) :
    Calls Tryd.prog 42 #[.pointer (some ⟨R, 0, none⟩)] w (RdPost StrV w B R L (typesM L us)) := by
  have HR0 := Lib.hid h
  have HS0 := Lib.hid hB
  have HC0 := Lib.hid (Chg.refl (fun b => b = R) w)
  have HM0 := Lib.hid (typesM.eq_1 L us)
  have hf := tokF1
  clear h hB
  go_enter Tryd.func42, Tryd.ntmps42
  go_wp2_with fail
  refine (take_new HR0.out HS0.out [[105, 110, 116], [98, 111, 111, 108], [91], [42]] (by simp) (by decide)).mono ?_
  rintro e w1 hp
  cases hx : takeM L [[105, 110, 116], [98, 111, 111, 108], [91], [42]] us with
  | bad p c =>
    have HM1 := Lib.hid (HM0.out.trans (bind_bad' hx))
    rw [hx] at hp
    obtain ⟨rfl, hc⟩ := hp
    have HC1 := Lib.hid (HC0.out.up hc)
    clear hx hc
    unfold thrown
    go_wp2
    rw [HM1.out]
    exact ⟨rfl, rfl, HC1.out⟩
  | ok a1 u1 =>
    have HM1 := Lib.hid (HM0.out.trans (bind_ok' hx))
    rw [hx] at hp
    obtain ⟨⟨v1, rfl, hv⟩, hr, hc⟩ := hp
    have HR1 := Lib.hid hr
    have HC1 := Lib.hid (HC0.out.up hc)
    have HS1 := Lib.hid (Nat.le_trans HS0.out hc.size)
    have HX1 := Lib.hid hx
    clear hx hr hc
    have hmem : a1.text = [105, 110, 116] ∨ a1.text = [98, 111, 111, 108] ∨ a1.text = [91] ∨ a1.text = [42] := by
      have := take_text HX1.out
      simpa using this
    rcases hmem with ht | ht | ht | ht
    ·
      obtain ⟨rfl, hok⟩ := hv
      obtain ⟨S, hS⟩ : ∃ S, S = strOf a1.text := ⟨_, rfl⟩
      have hl : S.toList = [105, 110, 116] := by rw [hS, strOf_toList, ht]
      rw [← hS]
      clear hS hok
      obtain ⟨K, hK⟩ : ∃ K : Int, K = (a1.kind : Nat) := ⟨_, rfl⟩
      obtain ⟨P, hP⟩ : ∃ P : Int, P = (a1.pl : Nat) := ⟨_, rfl⟩
      rw [← hK, ← hP]
      clear hK hP
      have HM2 := Lib.hid (HM1.out.trans ((if_neg (by rw [ht]; decide)).trans (if_neg (by rw [ht]; decide))))
      have HV : Hid (S = strOf a1.text ∧ a1.text.length ≤ 16384) := Lib.hid ⟨by rw [ht]; exact str_of hl, by rw [ht]; simp⟩
      clear ht
      go_wp2
      go_ret
      rw [HM2.out]
      exact ⟨⟨_, rfl, by rw [HV.out.1]; rfl, HV.out.2⟩, HR1.out, HC1.out⟩
    ·
      obtain ⟨rfl, hok⟩ := hv
      obtain ⟨S, hS⟩ : ∃ S, S = strOf a1.text := ⟨_, rfl⟩
      have hl : S.toList = [98, 111, 111, 108] := by rw [hS, strOf_toList, ht]
      rw [← hS]
      clear hS hok
      obtain ⟨K, hK⟩ : ∃ K : Int, K = (a1.kind : Nat) := ⟨_, rfl⟩
      obtain ⟨P, hP⟩ : ∃ P : Int, P = (a1.pl : Nat) := ⟨_, rfl⟩
      rw [← hK, ← hP]
      clear hK hP
      have HM2 := Lib.hid (HM1.out.trans ((if_neg (by rw [ht]; decide)).trans (if_neg (by rw [ht]; decide))))
      have HV : Hid (S = strOf a1.text ∧ a1.text.length ≤ 16384) := Lib.hid ⟨by rw [ht]; exact str_of hl, by rw [ht]; simp⟩
      clear ht
      go_wp2
      go_ret
      rw [HM2.out]
      exact ⟨⟨_, rfl, by rw [HV.out.1]; rfl, HV.out.2⟩, HR1.out, HC1.out⟩
    ·
      obtain ⟨rfl, hok⟩ := hv
      obtain ⟨S, hS⟩ : ∃ S, S = strOf a1.text := ⟨_, rfl⟩
      have hl : S.toList = [91] := by rw [hS, strOf_toList, ht]
      rw [← hS]
      clear hS hok
      obtain ⟨K, hK⟩ : ∃ K : Int, K = (a1.kind : Nat) := ⟨_, rfl⟩
      obtain ⟨P, hP⟩ : ∃ P : Int, P = (a1.pl : Nat) := ⟨_, rfl⟩
      rw [← hK, ← hP]
      clear hK hP
      have HM1 := Lib.hid (HM1.out.trans (if_pos ht))
      clear ht
      go_wp2_with fail
      refine (take_new HR1.out HS1.out [[93]] (by simp) (by decide)).mono ?_
      rintro e w2 hp
      cases hx : takeM L [[93]] u1 with
      | bad p c =>
        have HM2 := Lib.hid (HM1.out.trans (bind_bad' hx))
        rw [hx] at hp
        obtain ⟨rfl, hc⟩ := hp
        have HC2 := Lib.hid (HC1.out.up hc)
        clear hx hc
        unfold thrown
        go_wp2
        rw [HM2.out]
        exact ⟨rfl, rfl, HC2.out⟩
      | ok a2 u2 =>
        have HM2 := Lib.hid (HM1.out.trans (bind_ok' hx))
        rw [hx] at hp
        obtain ⟨⟨v2, rfl, hv⟩, hr, hc⟩ := hp
        have HR2 := Lib.hid hr
        have HC2 := Lib.hid (HC1.out.up hc)
        have HS2 := Lib.hid (Nat.le_trans HS1.out hc.size)
        have HX2 := Lib.hid hx
        clear hx hr hc
        clear hv
        go_wp2_with fail
        refine (take_new HR2.out HS2.out [[105, 110, 116]] (by simp) (by decide)).mono ?_
        rintro e w3 hp
        cases hx : takeM L [[105, 110, 116]] u2 with
        | bad p c =>
          have HM3 := Lib.hid (HM2.out.trans (map_bad' hx))
          rw [hx] at hp
          obtain ⟨rfl, hc⟩ := hp
          have HC3 := Lib.hid (HC2.out.up hc)
          clear hx hc
          unfold thrown
          go_wp2
          rw [HM3.out]
          exact ⟨rfl, rfl, HC3.out⟩
        | ok a3 u3 =>
          have HM3 := Lib.hid (HM2.out.trans (map_ok' hx))
          rw [hx] at hp
          obtain ⟨⟨v3, rfl, hv⟩, hr, hc⟩ := hp
          have HR3 := Lib.hid hr
          have HC3 := Lib.hid (HC2.out.up hc)
          have HS3 := Lib.hid (Nat.le_trans HS2.out hc.size)
          have HX3 := Lib.hid hx
          clear hx hr hc
          clear hv
          go_wp2
          go_ret
          rw [HM3.out]
          exact ⟨⟨_, rfl, ⟨rfl, by simp⟩⟩, HR3.out, HC3.out⟩
    ·
      obtain ⟨rfl, hok⟩ := hv
      obtain ⟨S, hS⟩ : ∃ S, S = strOf a1.text := ⟨_, rfl⟩
      have hl : S.toList = [42] := by rw [hS, strOf_toList, ht]
      rw [← hS]
      clear hS hok
      obtain ⟨K, hK⟩ : ∃ K : Int, K = (a1.kind : Nat) := ⟨_, rfl⟩
      obtain ⟨P, hP⟩ : ∃ P : Int, P = (a1.pl : Nat) := ⟨_, rfl⟩
      rw [← hK, ← hP]
      clear hK hP
      have HM1 := Lib.hid (HM1.out.trans ((if_neg (by rw [ht]; decide)).trans (if_pos ht)))
      clear ht
      go_wp2_with fail
      refine (nameR_any HR1.out HS1.out).mono ?_
      rintro e w2 hp
      cases hx : nameM L u1 with
      | bad p c =>
        have HM2 := Lib.hid (HM1.out.trans (map_bad' hx))
        rw [hx] at hp
        obtain ⟨rfl, hc⟩ := hp
        have HC2 := Lib.hid (HC1.out.up hc)
        clear hx hc
        unfold thrown
        go_wp2
        rw [HM2.out]
        exact ⟨rfl, rfl, HC2.out⟩
      | ok a2 u2 =>
        have HM2 := Lib.hid (HM1.out.trans (map_ok' hx))
        rw [hx] at hp
        obtain ⟨⟨v2, rfl, hv⟩, hr, hc⟩ := hp
        have HR2 := Lib.hid hr
        have HC2 := Lib.hid (HC1.out.up hc)
        have HS2 := Lib.hid (Nat.le_trans HS1.out hc.size)
        have HX2 := Lib.hid hx
        clear hx hr hc
        obtain ⟨rfl, hsz⟩ := hv
        have hq : ¬ 9223372036854775807 < 1 + (strOf a2).size := by rw [Lib.size_eq, strOf_data]; omega
        have HN2 : Hid (a2.length ≤ 15384) := Lib.hid (by have := name_short HR1.out HX2.out; omega)
        clear hsz
        go_wp2
        go_ret
        rw [HM2.out]
        exact ⟨⟨_, rfl, by rw [star_str]; rfl, by have := HN2.out; simp; omega⟩, HR2.out, HC2.out⟩
def PrV (_ : World) (p : Pr) (v : Value) : Prop := v = .agg #[.string (strOf p.name), .string (strOf p.type)] ∧ p.name.length ≤ 16384 ∧ p.type.length ≤ 16384
theorem row2 {w : World} {g : Nat} {a b : Value} {t : TypeId} (h : w.heap[g]? = some (.cells #[a, b] t (0, 0))) :
    w.cell? ⟨g, 0, none⟩ = some a ∧ w.cell? ⟨g, 1, none⟩ = some b ∧ w.frozen? ⟨g, 0, none⟩ = false ∧ w.frozen? ⟨g, 1, none⟩ = false :=
  ⟨by rw [cell_of_row w g 0 _ _ (0, 0) h]; rfl, by rw [cell_of_row w g 1 _ _ (0, 0) h]; rfl, frozen_of_row w g 0 _ _ h, frozen_of_row w g 1 _ _ h⟩
set_option maxRecDepth 100000 in
theorem pairR_any {w : World} {B R L : Nat} {us : List Tok} (h : RdAt w B R L us) (hB : B ≤ w.heap.size) (x y : Nat) :
    Calls Tryd.prog 58 #[.pointer (some ⟨R, 0, none⟩), .int .i64 (x : Nat), .int .i64 (y : Nat)] w (RdPost PrV w B R L (pairM L y x us)) := by
  have HR0 := Lib.hid h
  have HS0 := Lib.hid hB
  have HC0 := Lib.hid (Chg.refl (fun b => b = R) w)
  have HM0 := Lib.hid (pairM.eq_1 L y x us)
  obtain ⟨X, hX⟩ : ∃ X : World, X = w.alloc (.cells #[.string ⟨#[]⟩, .string ⟨#[]⟩] 73) := ⟨_, rfl⟩
  have hbX : Below w.heap.size w X := by rw [hX]; exact below_new _ _
  have hXg : X.heap[w.heap.size]? = some (.cells #[.string ⟨#[]⟩, .string ⟨#[]⟩] 73 (0, 0)) := by rw [hX]; exact heap_alloc_new _ _
  have HG := Lib.hid hXg
  have HGR := Lib.hid (show w.heap.size ≠ R from fun e => by have := h.lt; omega)
  have HR0 := Lib.hid (h.below' hB hbX)
  have HS0 := Lib.hid (Nat.le_trans hB hbX.size)
  have HB0 := Lib.hid hbX
  have HC0 := Lib.hid (Chg.refl (fun b => b = R) X)
  have HX0 := Lib.hid hX
  have HBW := Lib.hid hB
  have HI := Lib.hid (isName_any HR0.out)
  clear h hB hX hbX hXg
  go_enter Tryd.func58, Tryd.ntmps58
  go_wp2_with fail
  rw [← HX0.out]
  refine HI.out.mono ?_
  rintro e wi ⟨rfl, hb⟩
  have HRi := Lib.hid (HR0.out.below' HS0.out hb)
  have HCi := Lib.hid (Chg.of_below (P := fun b => b = R) hb)
  have HSi := Lib.hid (Nat.le_trans HS0.out hb.size)
  clear hb
  go_wp2_with fail
  refine (room_any HRi.out (decide (kd us = 1)) x y).mono ?_
  rintro e w1 hp
  cases hx : roomM L (decide (kd us = 1)) x y us with
  | bad p c =>
    have HM1 := Lib.hid (HM0.out.trans (bind_bad' hx))
    rw [hx] at hp
    obtain ⟨rfl, hc⟩ := hp
    have HC1 := Lib.hid (HCi.out.up hc)
    clear hx hc
    have HC1 := Lib.hid (chg_below HB0.out HC1.out)
    unfold thrown
    go_wp2
    rw [HM1.out]
    exact ⟨rfl, rfl, HC1.out⟩
  | ok a1 u1 =>
    have HM1 := Lib.hid (HM0.out.trans (bind_ok' hx))
    rw [hx] at hp
    obtain ⟨⟨v1, rfl, hv⟩, hr, hc⟩ := hp
    have HR1 := Lib.hid hr
    have HC1 := Lib.hid (HCi.out.up hc)
    have HS1 := Lib.hid (Nat.le_trans HSi.out hc.size)
    have HX1 := Lib.hid hx
    clear hv
    clear hx hr hc
    go_wp2_with fail
    refine (nameR_any HR1.out HS1.out).mono ?_
    rintro e w2 hp
    cases hx : nameM L u1 with
    | bad p c =>
      have HM2 := Lib.hid (HM1.out.trans (bind_bad' hx))
      rw [hx] at hp
      obtain ⟨rfl, hc⟩ := hp
      have HC2 := Lib.hid (HC1.out.up hc)
      clear hx hc
      have HC2 := Lib.hid (chg_below HB0.out HC2.out)
      unfold thrown
      go_wp2
      rw [HM2.out]
      exact ⟨rfl, rfl, HC2.out⟩
    | ok a2 u2 =>
      have HM2 := Lib.hid (HM1.out.trans (bind_ok' hx))
      rw [hx] at hp
      obtain ⟨⟨v2, rfl, hv⟩, hr, hc⟩ := hp
      have HR2 := Lib.hid hr
      have HC2 := Lib.hid (HC1.out.up hc)
      have HS2 := Lib.hid (Nat.le_trans HS1.out hc.size)
      have HX2 := Lib.hid hx
      have hv2 := hv
      clear hv
      clear hx hr hc
      go_wp2_with fail
      refine (typesR_any HR2.out HS2.out).mono ?_
      rintro e w3 hp
      cases hx : typesM L u2 with
      | bad p c =>
        have HM3 := Lib.hid (HM2.out.trans (map_bad' hx))
        rw [hx] at hp
        obtain ⟨rfl, hc⟩ := hp
        have HC3 := Lib.hid (HC2.out.up hc)
        clear hx hc
        have HC3 := Lib.hid (chg_below HB0.out HC3.out)
        unfold thrown
        go_wp2
        rw [HM3.out]
        exact ⟨rfl, rfl, HC3.out⟩
      | ok a3 u3 =>
        have HM3 := Lib.hid (HM2.out.trans (map_ok' hx))
        rw [hx] at hp
        obtain ⟨⟨v3, rfl, hv⟩, hr, hc⟩ := hp
        have HR3 := Lib.hid hr
        have HC3 := Lib.hid (HC2.out.up hc)
        have HS3 := Lib.hid (Nat.le_trans HS2.out hc.size)
        have HX3 := Lib.hid hx
        clear hx hr hc
        obtain ⟨rfl, hl2⟩ := hv2
        obtain ⟨rfl, hl3⟩ := hv
        obtain ⟨m0, m1, f0, f1⟩ := row2 (HC3.out.row HG.out HGR.out)
        go_wp2
        refine bodyPost_ret (v := .agg #[.string (strOf a2), .string (strOf a3)]) ?_ rfl ?_
        · simp [results, Tryd.results58, go_sem, m0, m1]
        · rw [HM3.out]
          exact ⟨⟨_, rfl, rfl, hl2, hl3⟩, rd_set (rd_set HR3.out HBW.out _) HBW.out _, chg_set (chg_set (chg_below HB0.out HC3.out) (Nat.le_refl _) _) (Nat.le_refl _) _⟩
end Go.Proofs.YtkmpnlbppdekaaaDoor
end
section
namespace Go.Proofs.YtkmpnlbppdekaaaDoor
open Go.Shelf
def lays172_ren : Go.Shelf.Ren := ⟨fun | 172 => 63 | 244 => 72 | 245 => 73 | 247 => 77 | 279 => 78 | 280 => 79 | 281 => 80 | 282 => 81 | 287 => 83 | 316 => 56 | 171 => 85 | 205 => 84 | 321 => 86 | 322 => 87 | 243 => 88 | 246 => 89 | 283 => 90 | 284 => 91 | 285 => 92 | 286 => 93 | 129 => 95 | 317 => 94 | 318 => 96 | 319 => 97 | 320 => 98 | 337 => 99 | 338 => 100 | n => n, fun | 9 => 9 | 3 => 3 | 75 => 92 | 76 => 93 | 4 => 4 | 5 => 5 | 167 => 101 | 37 => 96 | 0 => 0 | 85 => 102 | 2 => 2 | 168 => 104 | 53 => 107 | 175 => 108 | 46 => 110 | 210 => 112 | 127 => 97 | 145 => 118 | 143 => 116 | 21 => 21 | 171 => 120 | 173 => 123 | 212 => 127 | 51 => 128 | 20 => 20 | 213 => 129 | 232 => 133 | 233 => 134 | 80 => 82 | n => n, fun | 15 => 0 | 16 => 1 | 17 => 3 | 18 => 4 | 19 => 5 | n => n⟩
theorem lays172 : Go.Proofs.Lays.n172 Tryd.prog lays172_ren := {
  mixed := by kernel_rfl
  f129 := Tryd.func95.trans (congrArg some (by kernel_rfl))
  f171 := Tryd.func85.trans (congrArg some (by kernel_rfl))
  f172 := Tryd.func63.trans (congrArg some (by kernel_rfl))
  f205 := Tryd.func84.trans (congrArg some (by kernel_rfl))
  f243 := Tryd.func88.trans (congrArg some (by kernel_rfl))
  f244 := Tryd.func72.trans (congrArg some (by kernel_rfl))
  f245 := Tryd.func73.trans (congrArg some (by kernel_rfl))
  f246 := Tryd.func89.trans (congrArg some (by kernel_rfl))
  f247 := Tryd.func77.trans (congrArg some (by kernel_rfl))
  f279 := Tryd.func78.trans (congrArg some (by kernel_rfl))
  f280 := Tryd.func79.trans (congrArg some (by kernel_rfl))
  f281 := Tryd.func80.trans (congrArg some (by kernel_rfl))
  f282 := Tryd.func81.trans (congrArg some (by kernel_rfl))
  f283 := Tryd.func90.trans (congrArg some (by kernel_rfl))
  f284 := Tryd.func91.trans (congrArg some (by kernel_rfl))
  f285 := Tryd.func92.trans (congrArg some (by kernel_rfl))
  f286 := Tryd.func93.trans (congrArg some (by kernel_rfl))
  f287 := Tryd.func83.trans (congrArg some (by kernel_rfl))
  f316 := Tryd.func56.trans (congrArg some (by kernel_rfl))
  f317 := Tryd.func94.trans (congrArg some (by kernel_rfl))
  f318 := Tryd.func96.trans (congrArg some (by kernel_rfl))
  f319 := Tryd.func97.trans (congrArg some (by kernel_rfl))
  f320 := Tryd.func98.trans (congrArg some (by kernel_rfl))
  f321 := Tryd.func86.trans (congrArg some (by kernel_rfl))
  f322 := Tryd.func87.trans (congrArg some (by kernel_rfl))
  f337 := Tryd.func99.trans (congrArg some (by kernel_rfl))
  f338 := Tryd.func100.trans (congrArg some (by kernel_rfl))
  t0 := Tryd.underlying0
  a0 := Tryd.isAgg0
  z0 := Tryd.sizeOf0
  v0 := Tryd.zeroValue0
  t2 := Tryd.underlying2
  a2 := Tryd.isAgg2
  z2 := Tryd.sizeOf2
  v2 := Tryd.zeroValue2
  t3 := Tryd.underlying3
  a3 := Tryd.isAgg3
  z3 := Tryd.sizeOf3
  v3 := Tryd.zeroValue3
  t4 := Tryd.underlying4
  a4 := Tryd.isAgg4
  z4 := Tryd.sizeOf4
  v4 := Tryd.zeroValue4
  t5 := Tryd.underlying5
  a5 := Tryd.isAgg5
  z5 := Tryd.sizeOf5
  v5 := Tryd.zeroValue5
  t9 := Tryd.underlying9
  a9 := Tryd.isAgg9
  z9 := Tryd.sizeOf9
  v9 := Tryd.zeroValue9
  t20 := Tryd.underlying20
  a20 := Tryd.isAgg20
  z20 := Tryd.sizeOf20
  v20 := Tryd.zeroValue20
  t21 := Tryd.underlying21
  a21 := Tryd.isAgg21
  z21 := Tryd.sizeOf21
  v21 := Tryd.zeroValue21
  t37 := Tryd.underlying96
  a37 := Tryd.isAgg96
  z37 := Tryd.sizeOf96
  v37 := Tryd.zeroValue96
  t46 := Tryd.underlying110
  a46 := Tryd.isAgg110
  z46 := Tryd.sizeOf110
  v46 := Tryd.zeroValue110
  t51 := Tryd.underlying128
  a51 := Tryd.isAgg128
  z51 := Tryd.sizeOf128
  v51 := Tryd.zeroValue128
  t53 := Tryd.underlying107
  a53 := Tryd.isAgg107
  z53 := Tryd.sizeOf107
  v53 := Tryd.zeroValue107
  t75 := Tryd.underlying92
  a75 := Tryd.isAgg92
  z75 := Tryd.sizeOf92
  v75 := Tryd.zeroValue92
  t76 := Tryd.underlying93
  a76 := Tryd.isAgg93
  z76 := Tryd.sizeOf93
  v76 := Tryd.zeroValue93
  t85 := Tryd.underlying102
  a85 := Tryd.isAgg102
  z85 := Tryd.sizeOf102
  v85 := Tryd.zeroValue102
  t127 := Tryd.underlying97
  a127 := Tryd.isAgg97
  z127 := Tryd.sizeOf97
  v127 := Tryd.zeroValue97
  t143 := Tryd.underlying116
  a143 := Tryd.isAgg116
  z143 := Tryd.sizeOf116
  v143 := Tryd.zeroValue116
  t145 := Tryd.underlying118
  a145 := Tryd.isAgg118
  z145 := Tryd.sizeOf118
  v145 := Tryd.zeroValue118
  t167 := Tryd.underlying101
  a167 := Tryd.isAgg101
  z167 := Tryd.sizeOf101
  v167 := Tryd.zeroValue101
  t168 := Tryd.underlying104
  a168 := Tryd.isAgg104
  z168 := Tryd.sizeOf104
  v168 := Tryd.zeroValue104
  t171 := Tryd.underlying120
  a171 := Tryd.isAgg120
  z171 := Tryd.sizeOf120
  v171 := Tryd.zeroValue120
  t173 := Tryd.underlying123
  a173 := Tryd.isAgg123
  z173 := Tryd.sizeOf123
  v173 := Tryd.zeroValue123
  t175 := Tryd.underlying108
  a175 := Tryd.isAgg108
  z175 := Tryd.sizeOf108
  v175 := Tryd.zeroValue108
  t210 := Tryd.underlying112
  a210 := Tryd.isAgg112
  z210 := Tryd.sizeOf112
  v210 := Tryd.zeroValue112
  t212 := Tryd.underlying127
  a212 := Tryd.isAgg127
  z212 := Tryd.sizeOf127
  v212 := Tryd.zeroValue127
  t213 := Tryd.underlying129
  a213 := Tryd.isAgg129
  z213 := Tryd.sizeOf129
  t232 := Tryd.underlying133
  a232 := Tryd.isAgg133
  z232 := Tryd.sizeOf133
  v232 := Tryd.zeroValue133
  t233 := Tryd.underlying134
  a233 := Tryd.isAgg134
  z233 := Tryd.sizeOf134
  v233 := Tryd.zeroValue134
  g15 := by kernel_rfl
  g16 := by kernel_rfl
  g17 := by kernel_rfl
  g18 := by kernel_rfl
  g19 := by kernel_rfl }
open Go.RowKit in
theorem strconv_Atoi (s : ByteArray) (n : Int) (hl : s.size ≤ 18) (h : Lib.atoi s.data.toList = some n) (w : World) :
    Calls Tryd.prog 63 #[.string s] w fun e w' => e = .returned (.tuple #[.int .i64 n, .nilIface]) ∧ ∃ t, w' = Lib.bytesWorld w 5 t := Any.strconv_Atoi lays172 s n hl h w
end Go.Proofs.YtkmpnlbppdekaaaDoor
end
section
set_option linter.unusedVariables false
set_option linter.unusedSimpArgs false
namespace Go.Proofs.YtkmpnlbppdekaaaDoor
open Go.RowKit
theorem decFrom_num : ∀ (l : List UInt8) (acc : Nat), (∀ c ∈ l, digit c = true) → Lib.decFrom acc l = some (l.foldl (fun n c => n * 10 + (c.toNat - 48)) acc)
  | [], acc, _ => rfl
  | c :: r, acc, h => by
    have hc := h c (by simp)
    unfold digit at hc
    have hd : Lib.digitVal c = some (c.toNat - 48) := by unfold Lib.digitVal; rw [if_pos (by simpa using hc)]
    simp only [Lib.decFrom, hd]
    exact decFrom_num r _ fun d hd => h d (by simp [hd])
theorem atoi_num {l : List UInt8} (h : ∀ c ∈ l, digit c = true) (hne : l ≠ []) : Lib.atoi l = some (numOf l : Nat) := by
  cases l with
  | nil => exact absurd rfl hne
  | cons c r =>
    have hc := h c (by simp)
    unfold digit at hc
    simp only [Bool.and_eq_true, decide_eq_true_eq] at hc
    have h1 : (c == 45) = false := by
      rw [beq_eq_false_iff_ne]; intro e; rw [e] at hc; exact absurd hc.1 (by decide)
    have h2 : (c == 43) = false := by
      rw [beq_eq_false_iff_ne]; intro e; rw [e] at hc; exact absurd hc.1 (by decide)
    have h3 : Lib.decNat (c :: r) = some (numOf (c :: r)) := by
      unfold Lib.decNat numOf; rw [if_neg (by simp)]; exact decFrom_num _ _ h
    simp [Lib.atoi, h1, h2, h3]
theorem number_any (k p : Int) (s : List UInt8) (w : World) (h : ∀ c ∈ s, digit c = true) (hne : s ≠ []) (hl : s.length ≤ 18) :
    Calls Tryd.prog 48 #[.agg #[.int .i64 k, .string (strOf s), .int .i64 p]] w fun e w' => e = .returned (.int .i64 (numOf s : Nat)) ∧ Below w.heap.size w w' := by
  obtain ⟨X, hX⟩ : ∃ X : World, X = w.alloc (.cells #[.int .i64 k, .string (strOf s), .int .i64 p] 51) := ⟨_, rfl⟩
  have hbX : Below w.heap.size w X := by rw [hX]; exact below_new _ _
  have HA := Lib.hid (strconv_Atoi (strOf s) (numOf s : Nat) (by rw [Lib.size_eq, strOf_data]; exact hl) (atoi_num h hne) X)
  have HB := Lib.hid hbX
  have HX := Lib.hid hX
  clear h hne hl hX hbX
  go_enter Tryd.func48, Tryd.ntmps48
  go_wp2_with fail
  rw [← HX.out]
  refine HA.out.mono ?_
  rintro e w1 ⟨rfl, t, rfl⟩
  go_wp2
  go_ret
  exact ⟨rfl, HB.out.trans ((Lib.bytesWorld_below _ _ _).mono HB.out.size)⟩
theorem kd_dec (us : List Tok) (n : Nat) : decide (((kd us : Nat) : Int) = (n : Int)) = decide (kd us = n) := by
  by_cases h : kd us = n
  · simp [h]
  · simp [h]; omega
theorem places_hi {w : World} {B R L : Nat} {us : List Tok} (h : RdAt w B R L us) (hB : B ≤ w.heap.size) (P N : Int) (S : ByteArray) (g1 : (1 : Int) ≤ N) (g2 : ¬ N ≤ 4) (HM : Hid (placesM L us = .bad (plc L us) 11))
    (HNX : Hid (∀ wx, Below w.heap.size w wx → Calls Tryd.prog 29 #[.pointer (some ⟨R, 0, none⟩)] wx fun e w' => e = .returned (.agg #[.int .i64 2, .string S, .int .i64 P]) ∧ Below wx.heap.size wx w'))
    (HN : Hid (∀ w, Calls Tryd.prog 48 #[.agg #[.int .i64 2, .string S, .int .i64 P]] w fun e w' => e = .returned (.int .i64 N) ∧ Below w.heap.size w w')) :
    Calls Tryd.prog 44 #[.pointer (some ⟨R, 0, none⟩)] w (RdPost IntV w B R L (placesM L us)) := by
  have HH := Lib.hid h
  have HBB := Lib.hid hB
  have hf0 := tokF0
  have hf1 := tokF1
  clear h hB
  go_enter Tryd.func44, Tryd.ntmps44
  go_wp2_with fail
  refine (HNX.out w (Below.refl _ _)).mono ?_
  rintro e w1 ⟨rfl, hb⟩
  have HB1 := Lib.hid hb
  clear hb
  go_wp2_with fail
  refine (mustP_yes _ _ _).mono ?_
  rintro e w2 ⟨rfl, rfl⟩
  go_wp2_with fail
  refine (HNX.out w1 HB1.out).mono ?_
  rintro e w2 ⟨rfl, hb⟩
  have HB2 := Lib.hid (HB1.out.trans (hb.mono HB1.out.size))
  clear hb
  go_wp2_with fail
  refine (HN.out w2).mono ?_
  rintro e w3 ⟨rfl, hb⟩
  have HB3 := Lib.hid (HB2.out.trans (hb.mono HB2.out.size))
  clear hb
  go_wp2_with fail
  rw [show decide (N ≤ 4) = false from decide_eq_false (by omega)]
  refine (mustP_no (HH.out.below' HBB.out HB3.out) 11).mono ?_
  rintro e w4 ⟨rfl, hb⟩
  have HB4 := Lib.hid (HB3.out.trans (hb.mono HB3.out.size))
  clear hb
  unfold thrown
  go_wp2
  rw [HM.out]
  exact ⟨rfl, rfl, Chg.of_below HB4.out⟩
theorem places_lo {w : World} {B R L : Nat} {us : List Tok} (h : RdAt w B R L us) (hB : B ≤ w.heap.size) (P N : Int) (S : ByteArray) (g1 : ¬ (1 : Int) ≤ N) (HM : Hid (placesM L us = .bad (plc L us) 11))
    (HNX : Hid (∀ wx, Below w.heap.size w wx → Calls Tryd.prog 29 #[.pointer (some ⟨R, 0, none⟩)] wx fun e w' => e = .returned (.agg #[.int .i64 2, .string S, .int .i64 P]) ∧ Below wx.heap.size wx w'))
    (HN : Hid (∀ w, Calls Tryd.prog 48 #[.agg #[.int .i64 2, .string S, .int .i64 P]] w fun e w' => e = .returned (.int .i64 N) ∧ Below w.heap.size w w')) :
    Calls Tryd.prog 44 #[.pointer (some ⟨R, 0, none⟩)] w (RdPost IntV w B R L (placesM L us)) := by
  have HH := Lib.hid h
  have HBB := Lib.hid hB
  have hf0 := tokF0
  have hf1 := tokF1
  clear h hB
  go_enter Tryd.func44, Tryd.ntmps44
  go_wp2_with fail
  refine (HNX.out w (Below.refl _ _)).mono ?_
  rintro e w1 ⟨rfl, hb⟩
  have HB1 := Lib.hid hb
  clear hb
  go_wp2_with fail
  refine (mustP_yes _ _ _).mono ?_
  rintro e w2 ⟨rfl, rfl⟩
  go_wp2_with fail
  refine (HNX.out w1 HB1.out).mono ?_
  rintro e w2 ⟨rfl, hb⟩
  have HB2 := Lib.hid (HB1.out.trans (hb.mono HB1.out.size))
  clear hb
  go_wp2_with fail
  refine (HN.out w2).mono ?_
  rintro e w3 ⟨rfl, hb⟩
  have HB3 := Lib.hid (HB2.out.trans (hb.mono HB2.out.size))
  clear hb
  go_wp2_with fail
  try rw [show decide ((1 : Int) ≤ N) = false from decide_eq_false (by omega)]
  refine (mustP_no (HH.out.below' HBB.out HB3.out) 11).mono ?_
  rintro e w4 ⟨rfl, hb⟩
  have HB4 := Lib.hid (HB3.out.trans (hb.mono HB3.out.size))
  clear hb
  unfold thrown
  go_wp2
  rw [HM.out]
  exact ⟨rfl, rfl, Chg.of_below HB4.out⟩
theorem places_in {w : World} {B R L : Nat} {us : List Tok} (h : RdAt w B R L us) (hB : B ≤ w.heap.size) (P N : Int) (S : ByteArray) (g1 : (1 : Int) ≤ N) (g2 : N ≤ 4) {t : Tok} {r : List Tok} (hus : us = t :: r) (HM : Hid (placesM L us = .ok N r))
    (HNX : Hid (∀ wx, Below w.heap.size w wx → Calls Tryd.prog 29 #[.pointer (some ⟨R, 0, none⟩)] wx fun e w' => e = .returned (.agg #[.int .i64 2, .string S, .int .i64 P]) ∧ Below wx.heap.size wx w'))
    (HN : Hid (∀ w, Calls Tryd.prog 48 #[.agg #[.int .i64 2, .string S, .int .i64 P]] w fun e w' => e = .returned (.int .i64 N) ∧ Below w.heap.size w w')) :
    Calls Tryd.prog 44 #[.pointer (some ⟨R, 0, none⟩)] w (RdPost IntV w B R L (placesM L us)) := by
  have HH := Lib.hid h
  have HBB := Lib.hid hB
  have hf0 := tokF0
  have hf1 := tokF1
  clear h hB
  go_enter Tryd.func44, Tryd.ntmps44
  go_wp2_with fail
  refine (HNX.out w (Below.refl _ _)).mono ?_
  rintro e w1 ⟨rfl, hb⟩
  have HB1 := Lib.hid hb
  clear hb
  go_wp2_with fail
  refine (mustP_yes _ _ _).mono ?_
  rintro e w2 ⟨rfl, rfl⟩
  go_wp2_with fail
  refine (HNX.out w1 HB1.out).mono ?_
  rintro e w2 ⟨rfl, hb⟩
  have HB2 := Lib.hid (HB1.out.trans (hb.mono HB1.out.size))
  clear hb
  go_wp2_with fail
  refine (HN.out w2).mono ?_
  rintro e w3 ⟨rfl, hb⟩
  have HB3 := Lib.hid (HB2.out.trans (hb.mono HB2.out.size))
  clear hb
  go_wp2_with fail
  refine (mustP_yes _ _ _).mono ?_
  rintro e w4 ⟨rfl, rfl⟩
  subst hus
  go_wp2_with fail
  refine (pop_any (HH.out.below' HBB.out HB3.out) (Nat.le_trans HBB.out HB3.out.size)).mono ?_
  rintro e w4 ⟨rfl, hr, hc⟩
  have HR := Lib.hid hr
  have HC := Lib.hid (chg_below HB3.out hc)
  clear hr hc
  go_wp2
  go_ret
  rw [HM.out]
  exact ⟨⟨_, rfl, rfl⟩, HR.out, HC.out⟩
theorem places_kind {w : World} {B R L : Nat} {us : List Tok} (h : RdAt w B R L us) (hB : B ≤ w.heap.size) (P K : Int) (S : ByteArray) (hk2 : ¬ K = 2) (HM : Hid (placesM L us = .bad (plc L us) 20))
    (HNX : Hid (∀ wx, Below w.heap.size w wx → Calls Tryd.prog 29 #[.pointer (some ⟨R, 0, none⟩)] wx fun e w' => e = .returned (.agg #[.int .i64 K, .string S, .int .i64 P]) ∧ Below wx.heap.size wx w')) :
    Calls Tryd.prog 44 #[.pointer (some ⟨R, 0, none⟩)] w (RdPost IntV w B R L (placesM L us)) := by
  have HH := Lib.hid h
  have HBB := Lib.hid hB
  have hf0 := tokF0
  clear h hB
  go_enter Tryd.func44, Tryd.ntmps44
  go_wp2_with fail
  refine (HNX.out w (Below.refl _ _)).mono ?_
  rintro e w1 ⟨rfl, hb⟩
  have HB1 := Lib.hid hb
  clear hb
  have k1 : decide (K = 2) = false := decide_eq_false hk2
  have k2 : (K == 2) = false := by simpa using hk2
  go_wp2_with fail
  first | rw [k1] | rw [k2] | skip
  refine (mustP_no (HH.out.below' HBB.out HB1.out) 20).mono ?_
  rintro e w2 ⟨rfl, hb⟩
  have HB2 := Lib.hid (HB1.out.trans (hb.mono HB1.out.size))
  clear hb
  unfold thrown
  go_wp2
  rw [HM.out]
  exact ⟨rfl, rfl, Chg.of_below HB2.out⟩
theorem places_any {w : World} {B R L : Nat} {us : List Tok} (h : RdAt w B R L us) (hB : B ≤ w.heap.size) :
    Calls Tryd.prog 44 #[.pointer (some ⟨R, 0, none⟩)] w (RdPost IntV w B R L (placesM L us)) := by
  have hnx := fun wx hb => next_any (h.below' (w' := wx) hB hb)
  by_cases hk : kd us = 2
  · match us, hk with
    | t :: r, hk =>
      obtain ⟨hne, _, _, hnum⟩ := h.ok t (by simp)
      obtain ⟨hdg, hlen⟩ := hnum hk
      have hn := fun w => number_any 2 (plc L (t :: r) : Nat) t.text w hdg hne hlen
      have e3 : ((kd (t :: r) : Nat) : Int) = 2 := by rw [hk]; rfl
      rw [e3] at hnx
      have e2 : tx (t :: r) = t.text := rfl
      rw [e2] at hnx
      by_cases h1 : 1 ≤ numOf t.text
      · by_cases h2 : numOf t.text ≤ 4
        · exact places_in h hB _ _ _ (by omega) (by omega) rfl (Lib.hid (by unfold placesM; rw [if_pos hk]; exact if_pos ⟨h1, h2⟩)) (Lib.hid hnx) (Lib.hid hn)
        · exact places_hi h hB _ _ _ (by omega) (by omega) (Lib.hid (by unfold placesM; rw [if_pos hk]; exact if_neg fun e => h2 e.2)) (Lib.hid hnx) (Lib.hid hn)
      · exact places_lo h hB _ _ _ (by omega) (Lib.hid (by unfold placesM; rw [if_pos hk]; exact if_neg fun e => h1 e.1)) (Lib.hid hnx) (Lib.hid hn)
  · exact places_kind h hB _ _ _ (by omega) (Lib.hid (by unfold placesM; rw [if_neg hk])) (Lib.hid hnx)
end Go.Proofs.YtkmpnlbppdekaaaDoor
end
