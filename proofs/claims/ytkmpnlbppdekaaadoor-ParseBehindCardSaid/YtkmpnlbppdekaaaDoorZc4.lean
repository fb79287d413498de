/- Fo Un Uo Fx Ga -/
import Derived.Test.YtkmpnlbppdekaaaDoorZb9
import Derived.Test.YtkmpnlbppdekaaaDoorZc0
import Derived.StillTailTactics
import Derived.IntWalk
import Derived.Maps.AppendAt
section
set_option linter.unusedVariables false
set_option linter.unusedSimpArgs false
namespace Go.Proofs.YtkmpnlbppdekaaaDoor
open Go.RowKit
structure LsRow (T : TypeId) (w : World) (B R : Nat) (D : Int) (Z : World) (v : Value) : Prop where
  hB : B ≤ w.heap.size
  hR : R < B
  r0 : Z.heap[w.heap.size]? = some (.cells #[.pointer (some ⟨R, 0, none⟩)] 45 (0, 0))
  r1 : Z.heap[w.heap.size + 1]? = some (.cells #[.int .i64 D] 3 (0, 0))
  rl : Z.heap[w.heap.size + 1 + 1]? = some (.cells #[v] T (0, 0))
  chg : Chg (fun b => b = R) w Z
section
variable {T : TypeId} {w Z Z' : World} {B R L : Nat} {D : Int} {v : Value} {us : List Tok}
theorem LsRow.keep (h : LsRow T w B R D Z v) (hk : ∀ b, b < w.heap.size + 3 → b ≠ R → Z'.heap[b]? = Z.heap[b]?) (hc : Chg (fun b => b = R) w Z') : LsRow T w B R D Z' v := by
  have hB := h.hB
  have hR := h.hR
  exact ⟨h.hB, h.hR, (hk _ (by omega) (by omega)).trans h.r0, (hk _ (by omega) (by omega)).trans h.r1, (hk _ (by omega) (by omega)).trans h.rl, hc⟩
theorem LsRow.lt (h : LsRow T w B R D Z v) : w.heap.size + 3 ≤ Z.heap.size := by have := lt_of_heap h.rl; omega
theorem LsRow.step (h : LsRow T w B R D Z v) (hc : Chg (fun b => b = R) Z Z') : LsRow T w B R D Z' v := h.keep (fun b hb hn => hc.block b (by have := h.lt; omega) hn) (h.chg.up hc)
def LsFr (T : TypeId) (w : World) (B R L : Nat) (D : Int) (Z : World) (v : Value) (us : List Tok) : Prop := LsRow T w B R D Z v ∧ RdAt Z B R L us
theorem LsRow.cells (h : LsRow T w B R D Z v) : Z.cell? ⟨w.heap.size, 0, none⟩ = some (.pointer (some ⟨R, 0, none⟩)) ∧ Z.cell? ⟨w.heap.size + 1, 0, none⟩ = some (.int .i64 D) ∧ Z.cell? ⟨w.heap.size + 1 + 1, 0, none⟩ = some v ∧ Z.frozen? ⟨w.heap.size + 1 + 1, 0, none⟩ = false :=
  ⟨by rw [cell_of_row Z _ 0 _ _ (0, 0) h.r0]; rfl, by rw [cell_of_row Z _ 0 _ _ (0, 0) h.r1]; rfl, by rw [cell_of_row Z _ 0 _ _ (0, 0) h.rl]; rfl, frozen_of_row Z _ 0 _ _ h.rl⟩
theorem ls_ok (hB : B ≤ w.heap.size) : FrOk w B R L (w.heap.size + 3) w.heap.size (w.heap.size + 1) ⟨w.heap.size + 1 + 1, 0, none⟩ D (LsFr T w B R L D) where
  rd h := h.2
  size h := h.1.lt
  chg h := h.1.chg
  c0 h := h.1.cells.1
  c1 h := h.1.cells.2.1
  cv h := h.1.cells.2.2.1
  fz h := h.1.cells.2.2.2
  keep h hk _ hr hc := ⟨h.1.keep hk hc, hr⟩
  put v' h := by
    have hB := h.1.hB
    have hR := h.1.hR
    refine ⟨⟨h.1.hB, h.1.hR, ?_, ?_, ?_, h.1.chg.setCell _ _ fun e => by have : w.heap.size + 1 + 1 < w.heap.size := e; omega⟩, h.2.setCell _ _ (by show B ≤ w.heap.size + 1 + 1; omega)⟩
    · rw [Below.heap_setCell _ _ _ _ (by show _ ≠ w.heap.size + 1 + 1; omega)]; exact h.1.r0
    · rw [Below.heap_setCell _ _ _ _ (by show _ ≠ w.heap.size + 1 + 1; omega)]; exact h.1.r1
    · exact set_row1 h.1.rl _
  l0 := by omega
  l1 := by omega
  lv := by show w.heap.size + 1 + 1 < _; omega
  lB := by omega
  lw := by omega
  n0 := by show w.heap.size + 1 + 1 ≠ _; omega
  n1 := by show w.heap.size + 1 + 1 ≠ _; omega
theorem ls_start {Y : World} (hB : B ≤ w.heap.size) (h : RdAt w B R L us) (hY : Y = ((w.alloc (.cells #[.pointer (some ⟨R, 0, none⟩)] 45)).alloc (.cells #[.int .i64 D] 3)).alloc (.cells #[.slice none 0 0] T)) :
    LsFr T w B R L D Y (.slice none 0 0) us := by
  have hb : Below w.heap.size w Y := by rw [hY]; exact ((below_new _ _).alloc (by simp) _).alloc (by simp; omega) _
  refine ⟨⟨hB, h.lt, ?_, ?_, ?_, Chg.of_below hb⟩, h.below' hB hb⟩
  · rw [hY, Below.heap_alloc _ _ _ (by simp; omega), Below.heap_alloc _ _ _ (by simp)]; exact heap_alloc_new _ _
  · rw [hY, Below.heap_alloc _ _ _ (by simp)]
    have := heap_alloc_new (w.alloc (.cells #[.pointer (some ⟨R, 0, none⟩)] 45)) (.cells #[.int .i64 D] 3)
    simpa using this
  · rw [hY]
    have := heap_alloc_new ((w.alloc (.cells #[.pointer (some ⟨R, 0, none⟩)] 45)).alloc (.cells #[.int .i64 D] 3)) (.cells #[.slice none 0 0] T)
    simpa using this
end
theorem until_take {B R L : Nat} {shut : List UInt8} (hs : shut ≠ []) (w : World) (us : List Tok) (h : RdAt w B R L us) (hB : B ≤ w.heap.size) (ht : tx us = shut) : Calls Tryd.prog 17 #[.pointer (some ⟨R, 0, none⟩), .slice (some ⟨w.heap.size, 0, none⟩) 1 1] (w.alloc (.cells #[.string (strOf shut)] 9)) fun e w' =>
      (∃ v, e = .returned v) ∧ (shut ≠ [] → RdAt w' B R L us.tail) ∧ Chg (fun b => b = R) w w' := by
  cases us with
  | nil => exact absurd ht.symm hs
  | cons t r =>
    have h1 := take_new h hB [shut] (by simp) (by simpa using hs.symm)
    have h2 : takeM L [shut] (t :: r) = .ok t r := by rw [takeM, if_pos (by have h9 : t.text = shut := ht; simp [h9])]
    rw [h2] at h1
    refine h1.mono ?_
    rintro e w' ⟨⟨v, rfl, -⟩, hr, hc⟩
    exact ⟨⟨v, rfl⟩, fun _ => hr, hc⟩
theorem chg_own {w w0 w' : World} {R : Nat} (h0 : Chg (fun b => b = R) w w0) (h : Chg (fun b => b = R) w w') (hs : w0.heap.size ≤ w'.heap.size) : Chg (fun b => b = R ∨ w.heap.size ≤ b) w0 w' :=
  ⟨h.os.trans h0.os.symm, h.tape.trans h0.tape.symm, h.output.trans h0.output.symm, hs, fun b hb hn => by
    have hlt : b < w.heap.size := by omega
    rw [h.block b hlt (fun e => hn (.inl e)), h0.block b hlt (fun e => hn (.inl e))]⟩
theorem chg_own_back {w w0 w' : World} {R : Nat} (h0 : Chg (fun b => b = R) w w0) (h : Chg (fun b => b = R ∨ w.heap.size ≤ b) w0 w') : Chg (fun b => b = R) w w' :=
  ⟨h.os.trans h0.os, h.tape.trans h0.tape, h.output.trans h0.output, Nat.le_trans h0.size h.size, fun b hb hn => (h.block b (by have := h0.size; omega) (by omega)).trans (h0.block b hb hn)⟩
end Go.Proofs.YtkmpnlbppdekaaaDoor
end
section
set_option linter.unusedVariables false
namespace Go.Proofs.YtkmpnlbppdekaaaDoor
open Go.RowKit
def prsV : List Pr → List Value
  | p :: ps => .string (strOf p.name) :: .string (strOf p.type) :: prsV ps
  | [] => []
theorem prsV_get0 : ∀ (ps : List Pr) (k : Nat) (hk : k < ps.length), (prsV ps)[k * 2]? = some (.string (strOf ps[k].name))
  | p :: ps, 0, _ => rfl
  | p :: ps, k + 1, hk => by
    rw [show (k + 1) * 2 = k * 2 + 1 + 1 from by omega]
    exact prsV_get0 ps k (by simpa using hk)
theorem prsV_get1 : ∀ (ps : List Pr) (k : Nat) (hk : k < ps.length), (prsV ps)[k * 2 + 1]? = some (.string (strOf ps[k].type))
  | p :: ps, 0, _ => rfl
  | p :: ps, k + 1, hk => by
    rw [show (k + 1) * 2 + 1 = k * 2 + 1 + 1 + 1 from by omega]
    exact prsV_get1 ps k (by simpa using hk)
theorem info_pr : (Tryd.prog.info? 73).map (fun i => (i.zero, i.size, i.bytes)) = some (some (.agg #[.string ⟨#[]⟩, .string ⟨#[]⟩]), 2, 32) := by kernel_rfl
theorem prs_of_row {w : World} {base : Nat} {v : Value} {ps : List Pr} (hs : ∀ (k : Nat) (hk : k < ps.length), ps[k].name.length ≤ 140737488355328 ∧ ps[k].type.length ≤ 140737488355328)
    (h : w.ownsRow base 73 2 v ps.length (prsV ps)) : PrsIn w (fun b => base ≤ b ∧ b < w.heap.size ∧ v.ownBlock = some b) ps v := by
  have hlt := h.lt
  have hcell : ∀ (g : Nat), v.ownBlock = some g → ∀ (j : Nat) (u : Value), (prsV ps)[j]? = some u → w.cell? ⟨g, 0 + j, none⟩ = some u := fun g hg j u hu => by
    have := h.cells hg j u hu
    rw [add_pl] at this
    exact this
  rcases h.2 with ⟨rfl, h2⟩ | ⟨g, cap, cur, rfl, hbg, hg, hc1, hc2, _⟩
  · exact ⟨none, 0, by rw [h2], by omega, by omega, fun k hk => absurd hk (by omega)⟩
  · refine ⟨_, cap, rfl, hc1, by unfold maxLen at hc2; omega, fun k hk => ⟨g, 0, rfl, ⟨hbg, (hlt g rfl).2, rfl⟩, (hs k hk).1, (hs k hk).2, ?_, ?_⟩⟩
    · exact hcell g rfl (k * 2) _ (prsV_get0 ps k hk)
    · exact hcell g rfl (k * 2 + 1) _ (prsV_get1 ps k hk)
end Go.Proofs.YtkmpnlbppdekaaaDoor
end
section
set_option linter.unusedVariables false
namespace Go.Proofs.YtkmpnlbppdekaaaDoor
open Go.RowKit
structure Vd where
  p : Value
  b : Value
def dcCells (s : Dc) (f : Vd) : List Value := [.int .i64 s.kind, .int .i64 s.pl, .int .i64 s.num, .string (strOf s.name), .string (strOf s.type), f.p, f.b]
def dcsV : List Dc → List Vd → List Value
  | s :: ss, f :: fs => dcCells s f ++ dcsV ss fs
  | _, _ => []
theorem dcsV_app : ∀ {ss : List Dc} {fs : List Vd} (s : Dc) (u : Vd), ss.length = fs.length → dcsV (ss ++ [s]) (fs ++ [u]) = dcsV ss fs ++ dcCells s u
  | [], [], s, u, _ => by simp [dcsV]
  | d :: ss, f :: fs, s, u, h => by
    show dcCells d f ++ dcsV (ss ++ [s]) (fs ++ [u]) = _
    rw [dcsV_app s u (by simpa using h)]
    simp [dcsV]
theorem dcsV_get : ∀ {ss : List Dc} {fs : List Vd} (h : ss.length = fs.length) (k : Nat) (hk : k < ss.length) (i : Nat) (hi : i < 7), (dcsV ss fs)[k * 7 + i]? = (dcCells ss[k] (fs[k]'(by omega)))[i]?
  | s :: ss, f :: fs, h, 0, hk, i, hi => by
    show (dcCells s f ++ dcsV ss fs)[0 * 7 + i]? = _
    rw [Nat.zero_mul, Nat.zero_add, List.getElem?_append_left (by simpa [dcCells] using hi)]
    rfl
  | s :: ss, f :: fs, h, k + 1, hk, i, hi => by
    show (dcCells s f ++ dcsV ss fs)[(k + 1) * 7 + i]? = _
    rw [show (k + 1) * 7 + i = 7 + (k * 7 + i) from by omega, List.getElem?_append_right (by simp [dcCells])]
    rw [show 7 + (k * 7 + i) - (dcCells s f).length = k * 7 + i from by simp [dcCells]]
    exact dcsV_get (by simpa using h) k (by simpa using hk) i hi
theorem dcCells_one (s : Dc) (u : Vd) (h1 : u.p.oneCell' = true) (h2 : u.b.oneCell' = true) : ∀ x ∈ dcCells s u, x.oneCell' = true := by
  intro x hx
  simp [dcCells] at hx
  rcases hx with rfl | rfl | rfl | rfl | rfl | rfl | rfl
  · rfl
  · rfl
  · rfl
  · rfl
  · rfl
  · exact h1
  · exact h2
theorem PrsIn.one {w : World} {S : Nat → Prop} {ps : List Pr} {v : Value} (h : PrsIn w S ps v) : v.oneCell' = true := by
  obtain ⟨A, c, rfl, _⟩ := h; rfl
def DcIn (w : World) (S : Nat → Prop) (s : Dc) (f : Vd) : Prop := s.name.length ≤ 140737488355328 ∧ s.type.length ≤ 140737488355328 ∧ PrsIn w S s.pairs f.p ∧ IsSms w S s.body f.b
theorem DcIn.keep {w w' : World} {S S' : Nat → Prop} {s : Dc} {f : Vd} (h : DcIn w S s f) (hw : ∀ b, S b → w'.heap[b]? = w.heap[b]?) (hS : ∀ b, S b → S' b) : DcIn w' S' s f :=
  ⟨h.1, h.2.1, h.2.2.1.keep hw hS, h.2.2.2.keep hw hS⟩
def OwnDc (w : World) (base : Nat) (v : Value) (ss : List Dc) : Prop :=
  ∃ fs : List Vd, ss.length = fs.length ∧ w.ownsRow base 38 7 v ss.length (dcsV ss fs) ∧
    ∀ (k : Nat) (hk : k < ss.length) (hk' : k < fs.length), DcIn w (fun b => base ≤ b ∧ b < w.heap.size ∧ v.ownBlock ≠ some b) ss[k] fs[k]
theorem OwnDc.lt {w : World} {base : Nat} {v : Value} {ss : List Dc} (h : OwnDc w base v ss) {b : Nat} (hb : v.ownBlock = some b) : base ≤ b ∧ b < w.heap.size := by
  obtain ⟨fs, _, hown, _⟩ := h
  exact hown.lt b hb
theorem OwnDc.dcs {w : World} {base : Nat} {v : Value} {ss : List Dc} (h : OwnDc w base v ss) : DcsIn w (fun b => base ≤ b ∧ b < w.heap.size) ss v := by
  obtain ⟨fs, hl, hown, hin⟩ := h
  have hlt := hown.lt
  have hcell : ∀ (g : Nat), v.ownBlock = some g → ∀ (j : Nat) (u : Value), (dcsV ss fs)[j]? = some u → w.cell? ⟨g, 0 + j, none⟩ = some u := fun g hg j u hu => by
    have := hown.cells hg j u hu
    rw [add_pl] at this
    exact this
  rcases hown.2 with ⟨rfl, h2⟩ | ⟨g, cap, cur, rfl, hbg, hg, hc1, hc2, _⟩
  · have he : ss = [] := List.eq_nil_of_length_eq_zero h2
    subst he
    exact ⟨none, 0, (fun _ => undef), (fun _ => undef), rfl, Nat.le_refl _, by omega, (fun k hk => absurd hk (by simp)), (fun k hk => absurd hk (by simp)), (fun k hk => absurd hk (by simp))⟩
  · have hgd : ∀ (k : Nat) (hk' : k < fs.length), (fs[k]?.getD ⟨undef, undef⟩) = fs[k] := fun k hk' => by rw [List.getElem?_eq_getElem hk']; rfl
    refine ⟨_, cap, (fun k => (fs[k]?.getD ⟨undef, undef⟩).p), (fun k => (fs[k]?.getD ⟨undef, undef⟩).b), rfl, hc1, by unfold maxLen at hc2; omega, (fun k hk => ?_), (fun k hk => ?_), (fun k hk => ?_)⟩
    · have hk' : k < fs.length := by omega
      obtain ⟨a1, a2, _⟩ := hin k hk hk'
      refine ⟨g, 0, rfl, ⟨hbg, (hlt g rfl).2⟩, a1, a2, ?_, ?_, ?_, ?_, ?_, ?_, ?_⟩
      · exact hcell g rfl (k * 7) _ (by have := dcsV_get hl k hk 0 (by omega); rw [Nat.add_zero] at this; rw [this]; rfl)
      · exact hcell g rfl (k * 7 + 1) _ (by rw [dcsV_get hl k hk 1 (by omega)]; rfl)
      · exact hcell g rfl (k * 7 + 2) _ (by rw [dcsV_get hl k hk 2 (by omega)]; rfl)
      · exact hcell g rfl (k * 7 + 3) _ (by rw [dcsV_get hl k hk 3 (by omega)]; rfl)
      · exact hcell g rfl (k * 7 + 4) _ (by rw [dcsV_get hl k hk 4 (by omega)]; rfl)
      · dsimp only; rw [hgd k hk']; exact hcell g rfl (k * 7 + 5) _ (by rw [dcsV_get hl k hk 5 (by omega)]; rfl)
      · dsimp only; rw [hgd k hk']; exact hcell g rfl (k * 7 + 6) _ (by rw [dcsV_get hl k hk 6 (by omega)]; rfl)
    · have hk' : k < fs.length := by omega
      show PrsIn w _ ss[k].pairs (fs[k]?.getD ⟨undef, undef⟩).p
      rw [hgd k hk']
      exact (hin k hk hk').2.2.1.keep (fun _ _ => rfl) (fun b hb => ⟨hb.1, hb.2.1⟩)
    · have hk' : k < fs.length := by omega
      show IsSms w _ ss[k].body (fs[k]?.getD ⟨undef, undef⟩).b
      rw [hgd k hk']
      exact (hin k hk hk').2.2.2.keep (fun _ _ => rfl) (fun b hb => ⟨hb.1, hb.2.1⟩)
theorem OwnDc.below {w w' : World} {base : Nat} {v : Value} {ss : List Dc} (h : OwnDc w base v ss) (hb : Below w.heap.size w w') : OwnDc w' base v ss := by
  obtain ⟨fs, hl, hown, hin⟩ := h
  refine ⟨fs, hl, ?_, fun k hk hk' => (hin k hk hk').keep (fun b hb2 => hb.block b hb2.2.1) (fun b hb2 => ⟨hb2.1, Nat.lt_of_lt_of_le hb2.2.1 hb.size, hb2.2.2⟩)⟩
  rcases hown with ⟨h1, h2 | ⟨g, cap, cur, hv, hbg, hg, h3⟩⟩
  · exact ⟨h1, .inl h2⟩
  · refine ⟨h1, .inr ⟨g, cap, cur, hv, hbg, ?_, h3⟩⟩
    have hlt : g < w.heap.size := by
      rcases Nat.lt_or_ge g w.heap.size with hlt | hge
      · exact hlt
      · rw [Array.getElem?_eq_none hge] at hg; cases hg
    exact (hb.block g hlt).trans hg
theorem OwnDc.none (w : World) (base : Nat) : OwnDc w base (.slice none 0 0) [] :=
  ⟨[], rfl, World.ownsRow_nil _ _ _ _, fun k hk => absurd hk (by simp)⟩
theorem info_dc : (Tryd.prog.info? 38).map (fun i => (i.zero, i.size, i.bytes)) = some (some (.agg #[.int .i64 0, .int .i64 0, .int .i64 0, .string ⟨#[]⟩, .string ⟨#[]⟩, .slice none 0 0, .slice none 0 0]), 7, 104) := by kernel_rfl
end Go.Proofs.YtkmpnlbppdekaaaDoor
end
section
set_option linter.unusedVariables false
set_option linter.unusedSimpArgs false
namespace Go.Proofs.YtkmpnlbppdekaaaDoor
open Go.RowKit
structure LRow (T : TypeId) (w Y : World) (B R lo G C : Nat) (Z : World) (v : Value) : Prop where
  hB : B ≤ w.heap.size
  hR : R < B
  hG : w.heap.size ≤ G ∧ G < lo ∧ G ≠ C
  hC : w.heap.size ≤ C ∧ C < lo
  g0 : Y.heap[G]? = some (.cells #[.pointer (some ⟨R, 0, none⟩)] 45 (0, 0))
  rl : Z.heap[C]? = some (.cells #[v] T (0, 0))
  low : ∀ b, w.heap.size ≤ b → b < lo → b ≠ C → Z.heap[b]? = Y.heap[b]?
  sz : lo ≤ Z.heap.size
  chg : Chg (fun b => b = R) w Z
section
variable {T : TypeId} {w Y Z Z' : World} {B R L lo G C : Nat} {v : Value} {us : List Tok}
theorem LRow.keep (h : LRow T w Y B R lo G C Z v) (hk : ∀ b, w.heap.size ≤ b → b < lo → Z'.heap[b]? = Z.heap[b]?) (hs : Z.heap.size ≤ Z'.heap.size) (hc : Chg (fun b => b = R) w Z') : LRow T w Y B R lo G C Z' v :=
  ⟨h.hB, h.hR, h.hG, h.hC, h.g0, (hk _ h.hC.1 h.hC.2).trans h.rl, fun b h1 h2 h3 => (hk b h1 h2).trans (h.low b h1 h2 h3), Nat.le_trans h.sz hs, hc⟩
theorem LRow.step (h : LRow T w Y B R lo G C Z v) (hc : Chg (fun b => b = R) Z Z') : LRow T w Y B R lo G C Z' v :=
  h.keep (fun b h1 h2 => hc.block b (by have := h.sz; omega) (by have := h.hB; have := h.hR; omega)) hc.size (h.chg.up hc)
theorem LRow.cells (h : LRow T w Y B R lo G C Z v) : Z.cell? ⟨G, 0, none⟩ = some (.pointer (some ⟨R, 0, none⟩)) ∧ Z.cell? ⟨C, 0, none⟩ = some v ∧ Z.frozen? ⟨C, 0, none⟩ = false :=
  ⟨by rw [cell_of_row Z _ 0 _ _ (0, 0) ((h.low G h.hG.1 h.hG.2.1 h.hG.2.2).trans h.g0)]; rfl, by rw [cell_of_row Z _ 0 _ _ (0, 0) h.rl]; rfl, frozen_of_row Z _ 0 _ _ h.rl⟩
theorem LRow.put (h : LRow T w Y B R lo G C Z v) (v' : Value) : LRow T w Y B R lo G C (Z.setCell ⟨C, 0, none⟩ v') v' := by
  refine ⟨h.hB, h.hR, h.hG, h.hC, h.g0, set_row1 h.rl _, fun b h1 h2 h3 => (Below.heap_setCell _ _ _ _ h3).trans (h.low b h1 h2 h3), by have := h.sz; simpa [World.setCell] using this, h.chg.setCell _ _ fun e => ?_⟩
  have : C < w.heap.size := e
  have := h.hC.1
  omega
end
def OwnPr (w : World) (base : Nat) (v : Value) (ps : List Pr) : Prop := w.ownsRow base 73 2 v ps.length (prsV ps) ∧ ∀ (k : Nat) (hk : k < ps.length), ps[k].name.length ≤ 140737488355328 ∧ ps[k].type.length ≤ 140737488355328
section
variable {w w' : World} {base : Nat} {v : Value}
theorem OwnPr.nil (w : World) (base : Nat) : OwnPr w base (.slice none 0 0) [] := ⟨⟨rfl, .inl ⟨rfl, rfl⟩⟩, fun k hk => absurd hk (by simp)⟩
theorem ownsRow_keep {e : TypeId} {size n : Nat} {xs : List Value} (h : w.ownsRow base e size v n xs) (hk : ∀ b, b < w.heap.size → base ≤ b → w'.heap[b]? = w.heap[b]?) : w'.ownsRow base e size v n xs := by
  rcases h with ⟨h1, h2 | ⟨g, cap, cur, hv, hbg, hg, h3⟩⟩
  · exact ⟨h1, .inl h2⟩
  · exact ⟨h1, .inr ⟨g, cap, cur, hv, hbg, (hk g (lt_of_heap hg) hbg).trans hg, h3⟩⟩
theorem OwnPr.keep {ps : List Pr} (h : OwnPr w base v ps) (hs : w.heap.size ≤ w'.heap.size) (hk : ∀ b, b < w.heap.size → base ≤ b → w'.heap[b]? = w.heap[b]?) : OwnPr w' base v ps := ⟨ownsRow_keep h.1 hk, h.2⟩
theorem OwnPr.lt {ps : List Pr} (h : OwnPr w base v ps) {b : Nat} (hb : v.ownBlock = some b) : base ≤ b ∧ b < w.heap.size := h.1.lt b hb
theorem OwnPr.slice {ps : List Pr} (h : OwnPr w base v ps) : ∃ A c, v = .slice A ps.length c := by
  rcases h.1.2 with ⟨rfl, h2⟩ | ⟨g, cap, cur, rfl, hbg, hg, hc1, hc2, _⟩
  · exact ⟨none, 0, by rw [h2]⟩
  · exact ⟨_, cap, rfl⟩
theorem OwnPr.prs {ps : List Pr} (h : OwnPr w base v ps) : PrsIn w (fun b => base ≤ b ∧ b < w.heap.size) ps v := (prs_of_row h.2 h.1).keep (fun _ _ => rfl) fun b hb => ⟨hb.1, hb.2.1⟩
theorem OwnDc.keep {ps : List Dc} (h : OwnDc w base v ps) (hs : w.heap.size ≤ w'.heap.size) (hk : ∀ b, b < w.heap.size → base ≤ b → w'.heap[b]? = w.heap[b]?) : OwnDc w' base v ps := by
  obtain ⟨fs, hl, hown, hin⟩ := h
  exact ⟨fs, hl, ownsRow_keep hown hk, fun k hk1 hk' => (hin k hk1 hk').keep (fun b hb => hk b hb.2.1 hb.1) fun b hb => ⟨hb.1, by omega, hb.2.2⟩⟩
theorem OwnDc.slice {ps : List Dc} (h : OwnDc w base v ps) : ∃ A c, v = .slice A ps.length c := by
  obtain ⟨fs, hl, hown, hin⟩ := h
  rcases hown.2 with ⟨rfl, h2⟩ | ⟨g, cap, cur, rfl, hbg, hg, hc1, hc2, _⟩
  · exact ⟨.none, 0, by rw [h2]⟩
  · exact ⟨_, cap, rfl⟩
end
theorem prsV_app (ps : List Pr) (p : Pr) : prsV (ps ++ [p]) = prsV ps ++ [.string (strOf p.name), .string (strOf p.type)] := by
  induction ps with
  | nil => rfl
  | cons q ps ih => show _ :: _ :: prsV (ps ++ [p]) = _; rw [ih]; rfl
theorem step_append_prR {ops : Array Oper} {o : Oper} {a : Act} {w : World} {K : Act → World → Prop} {Q : Exit → Act → World → Prop} {E : Prop} (hgd : o.guard = none) (s x : Operand)
    (ho : o.op = .call { callee := .builtin .append, args := #[s, x], argTypes := #[35, 35] })
    (base : Nat) (v : Value) (ss : List Pr) (hs : a.eval s = v) (hown : OwnPr w base v ss) (ad : Addr) (c : Nat) (e : Pr) (hx : a.eval x = .slice (some ad) 1 c)
    (hnews : ∀ j y, ([.string (strOf e.name), .string (strOf e.type)] : List Value)[j]? = some y → w.cell? (ad.add j) = some y) (hen : e.name.length ≤ 140737488355328 ∧ e.type.length ≤ 140737488355328) (hb : ss.length ≤ 1000000) (hbase : base ≤ w.heap.size)
    (h : ∀ g' c' w', OwnPr w' base (.slice (some ⟨g', 0, none⟩) (ss.length + 1) c') (ss ++ [e]) → w.grownBy w' v.ownBlock → (v.ownBlock = some g' ∨ g' = w.heap.size) → K (a.put o.dst (.slice (some ⟨g', 0, none⟩) (ss.length + 1) c')) w') :
    if Region.wanted o (yielded ops a.tmps) = true then Oper.wp Tryd.prog o a w K Q else E := by
  obtain ⟨i0, hi, hz0, hz1, hz2⟩ := info_parts info_pr
  refine step_append_lies _ hgd s x 35 ho base 73 i0 _ 2 32 Tryd.underlying35 hi hz0 hz1 hz2 rfl (by decide) v ss.length (prsV ss) hs hown.1 ad 1 c [.string (strOf e.name), .string (strOf e.type)] hx rfl hnews (by
      intro u hu
      simp at hu
      rcases hu with rfl | rfl <;> rfl)
    (by omega) (by unfold maxLen; omega) (by omega) hbase w.heap.size rfl fun g cap w' hown' hgr hat hlt => h g cap w' ⟨?_, fun k hk => ?_⟩ hgr hat
  · rw [List.length_append, List.length_singleton, prsV_app]; exact hown'
  · by_cases hke : k < ss.length
    · rw [List.getElem_append_left hke]; exact hown.2 k hke
    · have hk0 : k = ss.length := by simp at hk; omega
      subst hk0
      have e1 : (ss ++ [e])[ss.length] = e := by simp
      rw [e1]; exact hen
theorem step_append_dcR {ops : Array Oper} {o : Oper} {a : Act} {w : World} {K : Act → World → Prop} {Q : Exit → Act → World → Prop} {E : Prop} (hgd : o.guard = none) (s x : Operand)
    (ho : o.op = .call { callee := .builtin .append, args := #[s, x], argTypes := #[23, 23] })
    (base : Nat) (v : Value) (ss : List Dc) (hs : a.eval s = v) (hown : OwnDc w base v ss) (ad : Addr) (c : Nat) (e : Dc) (u : Vd) (hx : a.eval x = .slice (some ad) 1 c)
    (hnews : ∀ j y, (dcCells e u)[j]? = some y → w.cell? (ad.add j) = some y) (hu : DcIn w (fun b => base ≤ b ∧ b < w.heap.size ∧ v.ownBlock ≠ some b) e u) (hb : ss.length ≤ 1000000) (hbase : base ≤ w.heap.size)
    (h : ∀ g' c' w', OwnDc w' base (.slice (some ⟨g', 0, none⟩) (ss.length + 1) c') (ss ++ [e]) → w.grownBy w' v.ownBlock → (v.ownBlock = some g' ∨ g' = w.heap.size) → K (a.put o.dst (.slice (some ⟨g', 0, none⟩) (ss.length + 1) c')) w') :
    if Region.wanted o (yielded ops a.tmps) = true then Oper.wp Tryd.prog o a w K Q else E := by
  obtain ⟨i0, hi, hz0, hz1, hz2⟩ := info_parts info_dc
  obtain ⟨fs, hl, hrow, hin⟩ := hown
  refine step_append_lies _ hgd s x 23 ho base 38 i0 _ 7 104 Tryd.underlying23 hi hz0 hz1 hz2 rfl (by decide) v ss.length (dcsV ss fs) hs hrow ad 1 c (dcCells e u) hx rfl hnews (dcCells_one e u hu.2.2.1.one hu.2.2.2.one)
    (by omega) (by unfold maxLen; omega) (by omega) hbase w.heap.size rfl fun g cap w' hown' hgr hat hlt => h g cap w' ?_ hgr hat
  have hkeep : ∀ b, (base ≤ b ∧ b < w.heap.size ∧ v.ownBlock ≠ some b) → w'.heap[b]? = w.heap[b]? := fun b hb => hgr.block b hb.2.1 (fun e => hb.2.2 e.symm)
  have hS : ∀ b, (base ≤ b ∧ b < w.heap.size ∧ v.ownBlock ≠ some b) → (base ≤ b ∧ b < w'.heap.size ∧ (Value.slice (some ⟨g, 0, .none⟩) (ss.length + 1) cap).ownBlock ≠ some b) := fun b hb => by
    have hsz := hgr.size
    refine ⟨hb.1, by omega, fun e => ?_⟩
    have e' : g = b := by simpa [Value.ownBlock] using e
    rcases hat with hat | hat
    · exact hb.2.2 (by rw [hat, e'])
    · omega
  refine ⟨fs ++ [u], by simp [hl], ?_, fun k hk hk' => ?_⟩
  · rw [List.length_append, dcsV_app e u hl]
    exact hown'
  · by_cases hke : k < ss.length
    · have hkf : k < fs.length := by omega
      rw [List.getElem_append_left hke, List.getElem_append_left hkf]
      exact (hin k hke hkf).keep hkeep hS
    · have hk0 : k = ss.length := by simp at hk; omega
      subst hk0
      have e1 : (ss ++ [e])[ss.length] = e := by simp
      have e2 : (fs ++ [u])[ss.length]'hk' = u := by
        rw [List.getElem_append_right (by omega)]
        simp [hl]
      rw [e1, e2]
      exact hu.keep hkeep hS
def DcB (base : Nat) (w' : World) (x : Dc) (v : Value) : Prop := ∃ f : Vd, v = .agg #[.int .i64 x.kind, .int .i64 x.pl, .int .i64 x.num, .string (strOf x.name), .string (strOf x.type), f.p, f.b] ∧ DcIn w' (fun b => base ≤ b ∧ b < w'.heap.size) x f
def PrsB (base : Nat) (w' : World) (xs : List Pr) (v : Value) : Prop := PrsIn w' (fun b => base ≤ b ∧ b < w'.heap.size) xs v
theorem news_row {W : World} {g : Nat} {l : List Value} {t : TypeId} (h : W.heap[g]? = some (.cells l.toArray t (0, 0))) : ∀ j y, l[j]? = some y → W.cell? ((⟨g, 0, none⟩ : Addr).add j) = some y := fun j y hj => by
  rw [add_pl, Nat.zero_add, cell_of_row _ _ j _ _ (0, 0) h]
  simpa using hj
end Go.Proofs.YtkmpnlbppdekaaaDoor
end
section
set_option linter.unusedVariables false
set_option linter.unusedSimpArgs false
namespace Go.Proofs.YtkmpnlbppdekaaaDoor
open Go.RowKit
theorem pop_end1 {w : World} {B R L : Nat} (h : RdAt w B R L []) (hB : B ≤ w.heap.size) {tb off c : Nat} (h1 : w.heap[R]? = some (.cells #[.slice (some ⟨tb, off, none⟩) (1) 1] 63 (0, 0))) (hcc : c = 1) (h3 : c ≤ 9223372036854775807) (k0 : w.cell? ⟨tb, off, none⟩ = some (.int .i64 0)) (k1 : w.cell? ⟨tb, off + 1, none⟩ = some (.string ⟨#[]⟩)) (k2 : w.cell? ⟨tb, off + 2, none⟩ = some (.int .i64 (L : Nat))) :
    Calls Tryd.prog 32 #[.pointer (some ⟨R, 0, none⟩)] w fun e w' => e = .returned (.agg #[.int .i64 0, .string ⟨#[]⟩, .int .i64 (L : Nat)]) ∧ Chg (fun b => b = R) w w' := by
  subst hcc
  have c0 := cell_of_row w R 0 _ _ (0, 0) h1
  simp at c0
  have z0 := frozen_of_row w R 0 _ _ h1
  have az := alloc_frozen c0 z0
  have HH := Lib.hid h
  have H1 := Lib.hid h1
  obtain ⟨X, hX⟩ : ∃ X : World, X = w.alloc (.cells #[.int .i64 0, .string ⟨#[]⟩, .int .i64 0] 51) := ⟨_, rfl⟩
  obtain ⟨g, hg⟩ : ∃ g, g = w.heap.size := ⟨_, rfl⟩
  have hsx : X.heap.size = g + 1 := by rw [hX, hg]; simp
  have x0 : X.cell? ⟨R, 0, none⟩ = some (.slice (some ⟨tb, off, none⟩) (1) 1) := by rw [hX]; exact alloc_cell c0 _
  have xz : X.frozen? ⟨R, 0, none⟩ = false := by rw [hX]; exact az _
  have x1 : X.cell? ⟨tb, off, none⟩ = some (.int .i64 0) := by rw [hX]; exact alloc_cell k0 _
  have x2 : X.cell? ⟨tb, off + 1, none⟩ = some (.string (⟨#[]⟩)) := by rw [hX]; exact alloc_cell k1 _
  have x3 : X.cell? ⟨tb, off + 2, none⟩ = some (.int .i64 (L : Nat)) := by rw [hX]; exact alloc_cell k2 _
  have hgr : X.heap[g]? = some (.cells #[.int .i64 0, .string ⟨#[]⟩, .int .i64 0] 51 (0, 0)) := by rw [hX, hg]; exact tok_row _ _ _ _
  have hRg : R < g := by rw [hg]; exact lt_of_cell c0
  obtain ⟨Y, hY⟩ : ∃ Y : World, Y = X.alloc (.cells #[.int .i64 0, .string (⟨#[]⟩), .int .i64 (L : Nat)] 51) := ⟨_, rfl⟩
  have y0 : Y.cell? ⟨R, 0, none⟩ = some (.slice (some ⟨tb, off, none⟩) (1) 1) := by rw [hY]; exact alloc_cell x0 _
  have yz : Y.frozen? ⟨R, 0, none⟩ = false := by rw [hY]; exact alloc_frozen x0 xz _
  have yr : Y.heap[g + 1]? = some (.cells #[.int .i64 0, .string (⟨#[]⟩), .int .i64 (L : Nat)] 51 (0, 0)) := by rw [hY, ← hsx]; exact tok_row _ _ _ _
  have yg : Y.heap[g]? = some (.cells #[.int .i64 0, .string ⟨#[]⟩, .int .i64 0] 51 (0, 0)) := by rw [hY, Below.heap_alloc _ _ _ (by omega)]; exact hgr
  have hby : Below w.heap.size w Y := by rw [hY]; exact ((by rw [hX]; exact below_new _ _ : Below w.heap.size w X)).alloc (by rw [hsx, ← hg]; omega) _
  obtain ⟨Z, hZ⟩ : ∃ Z : World, Z = Y.setCell ⟨R, 0, none⟩ (.slice (some ⟨tb, off, none⟩) 0 0) := ⟨_, rfl⟩
  have zr : Z.heap[g + 1]? = some (.cells #[.int .i64 0, .string (⟨#[]⟩), .int .i64 (L : Nat)] 51 (0, 0)) := by rw [hZ, Below.heap_setCell _ _ _ _ (by simp; omega)]; exact yr
  have zg : Z.heap[g]? = some (.cells #[.int .i64 0, .string ⟨#[]⟩, .int .i64 0] 51 (0, 0)) := by rw [hZ, Below.heap_setCell _ _ _ _ (by simp; omega)]; exact yg
  have z0 : Z.cell? ⟨g + 1, 0, none⟩ = some (.int .i64 0) := by rw [cell_of_row Z _ 0 _ _ (0, 0) zr]; rfl
  have z1 : Z.cell? ⟨g + 1, 1, none⟩ = some (.string (⟨#[]⟩)) := by rw [cell_of_row Z _ 1 _ _ (0, 0) zr]; rfl
  have z2 : Z.cell? ⟨g + 1, 2, none⟩ = some (.int .i64 (L : Nat)) := by rw [cell_of_row Z _ 2 _ _ (0, 0) zr]; rfl
  have f0 : Z.frozen? ⟨g, 0, none⟩ = false := frozen_of_row Z g 0 _ _ zg
  have f1 : Z.frozen? ⟨g, 1, none⟩ = false := frozen_of_row Z g 1 _ _ zg
  have f2 : Z.frozen? ⟨g, 2, none⟩ = false := frozen_of_row Z g 2 _ _ zg
  have m0 : Z.cell? ⟨g, 0, none⟩ = some (.int .i64 0) := by rw [cell_of_row Z _ 0 _ _ (0, 0) zg]; rfl
  have m1 : Z.cell? ⟨g, 1, none⟩ = some (.string ⟨#[]⟩) := by rw [cell_of_row Z _ 1 _ _ (0, 0) zg]; rfl
  have m2 : Z.cell? ⟨g, 2, none⟩ = some (.int .i64 0) := by rw [cell_of_row Z _ 2 _ _ (0, 0) zg]; rfl
  have HFIN : Hid (∀ w', Below w.heap.size Z w' → Chg (fun b => b = R) w w') := Lib.hid fun w' hb => by
    have hk : ∀ b, b < w.heap.size → b ≠ R → w'.heap[b]? = w.heap[b]? := fun b hlt hne => (hb.block b hlt).trans (by rw [hZ, Below.heap_setCell _ _ _ _ (by simpa using hne)]; exact hby.block b hlt)
    refine ⟨?_, ?_, ?_, ?_, fun k hlt hn => hk k hlt hn⟩
    · rw [hb.os, hZ]; exact hby.os
    · rw [hb.tape, hZ]; exact hby.tape
    · rw [hb.output, hZ]; exact hby.output
    · have := hb.size; have := hby.size; rw [hZ] at *; simp [World.setCell] at *; omega
  clear h h1 c0 k0 k1 k2 az hby hgr yr yg zr zg xz hRg
  subst hZ hY hX hg
  go_enter Tryd.func32, Tryd.ntmps32
  go_wp2
  refine bodyPost_ret (v := .agg #[.int .i64 0, .string (⟨#[]⟩), .int .i64 (L : Nat)]) ?_ rfl ⟨rfl, HFIN.out _ ?_⟩
  · simp [results, Tryd.results32, go_sem, m0, m1, m2]
  · refine Below.setCell ?_ (by simp) _
    refine Below.setCell ?_ (by simp) _
    refine Below.setCell ?_ (by simp) _
    exact Below.refl _ _
theorem pop_end2 {w : World} {B R L : Nat} (h : RdAt w B R L []) (hB : B ≤ w.heap.size) {tb off c : Nat} (h1 : w.heap[R]? = some (.cells #[.slice (some ⟨tb, off, none⟩) (1) c] 63 (0, 0))) (hcc : 1 < c) (h3 : c ≤ 9223372036854775807) (k0 : w.cell? ⟨tb, off, none⟩ = some (.int .i64 0)) (k1 : w.cell? ⟨tb, off + 1, none⟩ = some (.string ⟨#[]⟩)) (k2 : w.cell? ⟨tb, off + 2, none⟩ = some (.int .i64 (L : Nat))) :
    Calls Tryd.prog 32 #[.pointer (some ⟨R, 0, none⟩)] w fun e w' => e = .returned (.agg #[.int .i64 0, .string ⟨#[]⟩, .int .i64 (L : Nat)]) ∧ Chg (fun b => b = R) w w' := by
  have c0 := cell_of_row w R 0 _ _ (0, 0) h1
  simp at c0
  have z0 := frozen_of_row w R 0 _ _ h1
  have az := alloc_frozen c0 z0
  have hc1 : ¬ c - 1 = 0 := by omega
  have HH := Lib.hid h
  have H1 := Lib.hid h1
  obtain ⟨X, hX⟩ : ∃ X : World, X = w.alloc (.cells #[.int .i64 0, .string ⟨#[]⟩, .int .i64 0] 51) := ⟨_, rfl⟩
  obtain ⟨g, hg⟩ : ∃ g, g = w.heap.size := ⟨_, rfl⟩
  have hsx : X.heap.size = g + 1 := by rw [hX, hg]; simp
  have x0 : X.cell? ⟨R, 0, none⟩ = some (.slice (some ⟨tb, off, none⟩) (1) c) := by rw [hX]; exact alloc_cell c0 _
  have xz : X.frozen? ⟨R, 0, none⟩ = false := by rw [hX]; exact az _
  have x1 : X.cell? ⟨tb, off, none⟩ = some (.int .i64 0) := by rw [hX]; exact alloc_cell k0 _
  have x2 : X.cell? ⟨tb, off + 1, none⟩ = some (.string (⟨#[]⟩)) := by rw [hX]; exact alloc_cell k1 _
  have x3 : X.cell? ⟨tb, off + 2, none⟩ = some (.int .i64 (L : Nat)) := by rw [hX]; exact alloc_cell k2 _
  have hgr : X.heap[g]? = some (.cells #[.int .i64 0, .string ⟨#[]⟩, .int .i64 0] 51 (0, 0)) := by rw [hX, hg]; exact tok_row _ _ _ _
  have hRg : R < g := by rw [hg]; exact lt_of_cell c0
  obtain ⟨Y, hY⟩ : ∃ Y : World, Y = X.alloc (.cells #[.int .i64 0, .string (⟨#[]⟩), .int .i64 (L : Nat)] 51) := ⟨_, rfl⟩
  have y0 : Y.cell? ⟨R, 0, none⟩ = some (.slice (some ⟨tb, off, none⟩) (1) c) := by rw [hY]; exact alloc_cell x0 _
  have yz : Y.frozen? ⟨R, 0, none⟩ = false := by rw [hY]; exact alloc_frozen x0 xz _
  have yr : Y.heap[g + 1]? = some (.cells #[.int .i64 0, .string (⟨#[]⟩), .int .i64 (L : Nat)] 51 (0, 0)) := by rw [hY, ← hsx]; exact tok_row _ _ _ _
  have yg : Y.heap[g]? = some (.cells #[.int .i64 0, .string ⟨#[]⟩, .int .i64 0] 51 (0, 0)) := by rw [hY, Below.heap_alloc _ _ _ (by omega)]; exact hgr
  have hby : Below w.heap.size w Y := by rw [hY]; exact ((by rw [hX]; exact below_new _ _ : Below w.heap.size w X)).alloc (by rw [hsx, ← hg]; omega) _
  obtain ⟨Z, hZ⟩ : ∃ Z : World, Z = Y.setCell ⟨R, 0, none⟩ (.slice (some ⟨tb, off + 3, none⟩) 0 (c - 1)) := ⟨_, rfl⟩
  have zr : Z.heap[g + 1]? = some (.cells #[.int .i64 0, .string (⟨#[]⟩), .int .i64 (L : Nat)] 51 (0, 0)) := by rw [hZ, Below.heap_setCell _ _ _ _ (by simp; omega)]; exact yr
  have zg : Z.heap[g]? = some (.cells #[.int .i64 0, .string ⟨#[]⟩, .int .i64 0] 51 (0, 0)) := by rw [hZ, Below.heap_setCell _ _ _ _ (by simp; omega)]; exact yg
  have z0 : Z.cell? ⟨g + 1, 0, none⟩ = some (.int .i64 0) := by rw [cell_of_row Z _ 0 _ _ (0, 0) zr]; rfl
  have z1 : Z.cell? ⟨g + 1, 1, none⟩ = some (.string (⟨#[]⟩)) := by rw [cell_of_row Z _ 1 _ _ (0, 0) zr]; rfl
  have z2 : Z.cell? ⟨g + 1, 2, none⟩ = some (.int .i64 (L : Nat)) := by rw [cell_of_row Z _ 2 _ _ (0, 0) zr]; rfl
  have f0 : Z.frozen? ⟨g, 0, none⟩ = false := frozen_of_row Z g 0 _ _ zg
  have f1 : Z.frozen? ⟨g, 1, none⟩ = false := frozen_of_row Z g 1 _ _ zg
  have f2 : Z.frozen? ⟨g, 2, none⟩ = false := frozen_of_row Z g 2 _ _ zg
  have m0 : Z.cell? ⟨g, 0, none⟩ = some (.int .i64 0) := by rw [cell_of_row Z _ 0 _ _ (0, 0) zg]; rfl
  have m1 : Z.cell? ⟨g, 1, none⟩ = some (.string ⟨#[]⟩) := by rw [cell_of_row Z _ 1 _ _ (0, 0) zg]; rfl
  have m2 : Z.cell? ⟨g, 2, none⟩ = some (.int .i64 0) := by rw [cell_of_row Z _ 2 _ _ (0, 0) zg]; rfl
  have HFIN : Hid (∀ w', Below w.heap.size Z w' → Chg (fun b => b = R) w w') := Lib.hid fun w' hb => by
    have hk : ∀ b, b < w.heap.size → b ≠ R → w'.heap[b]? = w.heap[b]? := fun b hlt hne => (hb.block b hlt).trans (by rw [hZ, Below.heap_setCell _ _ _ _ (by simpa using hne)]; exact hby.block b hlt)
    refine ⟨?_, ?_, ?_, ?_, fun k hlt hn => hk k hlt hn⟩
    · rw [hb.os, hZ]; exact hby.os
    · rw [hb.tape, hZ]; exact hby.tape
    · rw [hb.output, hZ]; exact hby.output
    · have := hb.size; have := hby.size; rw [hZ] at *; simp [World.setCell] at *; omega
  clear h h1 c0 k0 k1 k2 az hby hgr yr yg zr zg xz hRg
  subst hZ hY hX hg
  go_enter Tryd.func32, Tryd.ntmps32
  go_wp2
  refine bodyPost_ret (v := .agg #[.int .i64 0, .string (⟨#[]⟩), .int .i64 (L : Nat)]) ?_ rfl ⟨rfl, HFIN.out _ ?_⟩
  · simp [results, Tryd.results32, go_sem, m0, m1, m2]
  · refine Below.setCell ?_ (by simp) _
    refine Below.setCell ?_ (by simp) _
    refine Below.setCell ?_ (by simp) _
    exact Below.refl _ _
theorem pop_end {w : World} {B R L : Nat} (h : RdAt w B R L []) (hB : B ≤ w.heap.size) :
    Calls Tryd.prog 32 #[.pointer (some ⟨R, 0, none⟩)] w fun e w' => e = .returned (.agg #[.int .i64 0, .string ⟨#[]⟩, .int .i64 (L : Nat)]) ∧ Chg (fun b => b = R) w w' := by
  obtain ⟨tb, off, c, n, hn, h1, h2, h3, h4, h5, h6, k0, k1, k2⟩ := h.head
  subst hn
  by_cases hc : c = 1
  · exact pop_end1 h hB (by rw [hc] at h1; exact h1) hc h3 k0 k1 k2
  · exact pop_end2 h hB h1 (by simp at h2; omega) h3 k0 k1 k2
def EndPost (w : World) (R : Nat) (us : List Tok) (e : Ending) (w' : World) : Prop := match us with
  | [] => (∃ v, e = .returned v) ∧ Chg (fun b => b = R) w w'
  | t :: _ => e = thrown t.pl 20 ∧ Chg (fun b => b = R) w w'
theorem take_end {w : World} {B R L : Nat} {us : List Tok} (h : RdAt w B R L us) (hB : B ≤ w.heap.size) :
    Calls Tryd.prog 17 #[.pointer (some ⟨R, 0, none⟩), .slice (some ⟨w.heap.size, 0, none⟩) 1 1] (w.alloc (.cells #[.string ⟨#[]⟩] 9)) (EndPost w R us) := by
  obtain ⟨X, hX⟩ : ∃ X : World, X = w.alloc (.cells (#[.string ⟨#[]⟩]) 9) := ⟨_, rfl⟩
  obtain ⟨Y, hY⟩ : ∃ Y : World, Y = X.alloc (.cells #[.int .i64 0, .string ⟨#[]⟩, .int .i64 0] 51) := ⟨_, rfl⟩
  have hbX : Below w.heap.size w X := by rw [hX]; exact below_new _ _
  have hbXY : Below X.heap.size X Y := by rw [hY]; exact below_new _ _
  have hbY : Below w.heap.size w Y := hbX.trans (hbXY.mono hbX.size)
  have hXs : X.heap[w.heap.size]? = some (.cells (#[.string ⟨#[]⟩]) 9 (0, 0)) := by rw [hX]; exact heap_alloc_new _ _
  have hYs := (hbXY.block _ (lt_of_heap hXs)).trans hXs
  have hYg : Y.heap[X.heap.size]? = some (.cells #[.int .i64 0, .string ⟨#[]⟩, .int .i64 0] 51 (0, 0)) := by rw [hY]; exact tok_row _ _ _ _
  have hRY := h.below' hB hbY
  have hBY : B ≤ Y.heap.size := Nat.le_trans hB hbY.size
  have HNX := Lib.hid (next_any hRY)
  have HCON : Hid (∀ wx, Below Y.heap.size Y wx → Calls Tryd.prog 31 #[.slice (some ⟨w.heap.size, 0, none⟩) 1 1, .string (strOf (tx us))] wx fun e w' => e = .returned (.bool (decide (tx us = []))) ∧ w' = wx) := Lib.hid fun wx hb => by
    have hx := (hb.block _ (lt_of_heap hYs)).trans hYs
    have := slices_Contains_string w.heap.size 0 1 1 [⟨#[]⟩] (strOf (tx us)) wx (by simp) (by omega) (fun j hj => by
      rw [Nat.zero_add, cell_of_row _ _ j _ _ (0, 0) hx]
      obtain rfl : j = 0 := by simpa using hj
      rfl)
    rw [List.take_of_length_le (by simp)] at this
    have e9 : Lib.containsS [⟨#[]⟩] (strOf (tx us)) = decide (tx us = []) := by
      have := contains_tx [[]] (tx us)
      show Lib.containsS [strOf []] (strOf (tx us)) = _
      simpa using this
    rw [e9] at this
    exact this
  have HRY := Lib.hid hRY
  have HBB := Lib.hid hBY
  have HY0 := Lib.hid hbY
  have HG := Lib.hid hYg
  have HXB := Lib.hid hbX
  have hf := tokF1
  have hgR : X.heap.size ≠ R := fun e => by have := h.lt; have := hbX.size; omega
  have HGR := Lib.hid hgR
  have hX1 := Lib.hid hX
  have hY1 := Lib.hid hY
  obtain ⟨K, hK⟩ : ∃ K : Int, K = (kd us : Nat) := ⟨_, rfl⟩
  obtain ⟨P, hP⟩ : ∃ P : Int, P = (plc L us : Nat) := ⟨_, rfl⟩
  rw [← hK, ← hP] at HNX
  have hBw : B ≤ X.heap.size := Nat.le_trans hB hbX.size
  have HBX := Lib.hid hBw
  rw [← hX]
  cases us with
  | nil =>
      have hd : decide (tx [] = []) = true := by decide
      rw [hd] at HCON
      clear hX hY hbX hbXY hbY hXs hYs hYg hRY hBY hK hP hgR h hd hBw
      go_enter Tryd.func17, Tryd.ntmps17
      go_wp2_with fail
      rw [← hY1.out]
      refine HNX.out.mono ?_
      rintro e w1 ⟨rfl, hb⟩
      have HB1 := Lib.hid hb
      clear hb
      go_wp2_with fail
      refine (HCON.out w1 HB1.out).mono ?_
      rintro e w2 ⟨rfl, rfl⟩
      go_wp2_with fail
      refine (mustP_yes _ _ _).mono ?_
      rintro e w2 ⟨rfl, rfl⟩
      go_wp2_with fail
      refine (pop_end (HRY.out.below' HBB.out HB1.out) (Nat.le_trans HBB.out HB1.out.size)).mono ?_
      rintro e w2 ⟨rfl, hc⟩
      obtain ⟨m0, m1, m2, f0, f1, f2⟩ := row3 (hc.row ((HB1.out.block _ (lt_of_heap HG.out)).trans HG.out) HGR.out)
      have HC := Lib.hid (chg_below (HY0.out.trans (HB1.out.mono HY0.out.size)) hc)
      clear hc
      go_wp2
      refine bodyPost_ret (v := .agg #[.int .i64 0, .string ⟨#[]⟩, .int .i64 (L : Nat)]) ?_ rfl ?_
      · simp [results, Tryd.results17, go_sem, m0, m1, m2]
      · exact ⟨⟨_, rfl⟩, chg_set (chg_set (chg_set HC.out HXB.out.size _) HXB.out.size _) HXB.out.size _⟩
  | cons t r =>
      have hd : decide (tx (t :: r) = []) = false := decide_eq_false (h.ok t (by simp)).1
      rw [hd] at HCON
      clear hX hY hbX hbXY hbY hXs hYs hYg hRY hBY hK hP hgR h hd hBw
      go_enter Tryd.func17, Tryd.ntmps17
      go_wp2_with fail
      rw [← hY1.out]
      refine HNX.out.mono ?_
      rintro e w1 ⟨rfl, hb⟩
      have HB1 := Lib.hid hb
      clear hb
      go_wp2_with fail
      refine (HCON.out w1 HB1.out).mono ?_
      rintro e w2 ⟨rfl, rfl⟩
      go_wp2_with fail
      refine (mustP_no (HRY.out.below' HBB.out HB1.out) 20).mono ?_
      rintro e w2 ⟨rfl, hb⟩
      have HB2 := Lib.hid (HY0.out.trans ((HB1.out.trans (hb.mono HB1.out.size)).mono HY0.out.size))
      clear hb
      unfold thrown
      go_wp2
      exact ⟨rfl, rfl, Chg.of_below HB2.out⟩
end Go.Proofs.YtkmpnlbppdekaaaDoor
end
