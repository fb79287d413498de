/- Xc -/
import Derived.Test.YtjpphbjnakalhaaDoorZd4
import Derived.StillTailTactics
import Derived.IntWalk
set_option linter.unusedVariables false
namespace Go.Proofs.YtjpphbjnakalhaaDoor
open Go.RowKit
def fieldsQ (ps : List Pr) : Ts := need (ps.length ≤ 8) (cat (some [[123]]) (cat (penFs ps) (some [[125]])))
def paramsQ (ps : List Pr) : Ts := need (ps.length ≤ 4) (cat (some [[40]]) (cat (penPs ps 0) (some [[41]])))
section
variable (p n : Int) (nm ty : List UInt8) (ps : List Pr) (bd : List Sm)
theorem need_comm {q : Prop} [Decidable q] (c : Ts) : need q c = cat c (need q (some [])) := by
  by_cases h : q
  · rw [need_yes h, need_yes h, cat_nil_r]
  · rw [need_no h, need_no h, cat_none_r]
theorem penD_name (d : Dc) (h : ¬ nameB d.name = true) : penD d = none := by unfold penD; rw [need_no h, cat_none_l]
theorem penD_1 (h : nameB nm = true) : penD ⟨1, p, n, nm, ty, ps, bd⟩ = cat (some [wordS 5, nm, [59]]) (need (n = 0 ∧ ty = [] ∧ ps.length = 0 ∧ bd.length = 0) (some [])) := by
  unfold penD; rw [need_yes h, cat_nil_l]; exact need_comm (q := n = 0 ∧ ty = [] ∧ ps.length = 0 ∧ bd.length = 0) _
theorem penD_5 (h : nameB nm = true) : penD ⟨5, p, n, nm, ty, ps, bd⟩ = cat (some [[105, 110, 112, 117, 116], nm, [59]]) (need (n = 0 ∧ ty = [] ∧ ps.length = 0 ∧ bd.length = 0) (some [])) := by
  unfold penD; rw [need_yes h, cat_nil_l]; exact need_comm (q := n = 0 ∧ ty = [] ∧ ps.length = 0 ∧ bd.length = 0) _
theorem penD_6 (h : nameB nm = true) : penD ⟨6, p, n, nm, ty, ps, bd⟩ = cat (some [[115, 105, 110, 107], nm, [59]]) (need (n = 0 ∧ ty = [] ∧ ps.length = 0 ∧ bd.length = 0) (some [])) := by
  unfold penD; rw [need_yes h, cat_nil_l]; exact need_comm (q := n = 0 ∧ ty = [] ∧ ps.length = 0 ∧ bd.length = 0) _
theorem penD_4 (h : nameB nm = true) : penD ⟨4, p, n, nm, ty, ps, bd⟩ = cat (some [wordS 1, nm]) (cat (tyT ty) (cat (some [[59]]) (need (n = 0 ∧ ps.length = 0 ∧ bd.length = 0) (some [])))) := by
  unfold penD; rw [need_yes h, cat_nil_l]; exact (need_comm (q := n = 0 ∧ ps.length = 0 ∧ bd.length = 0) _).trans (by rw [cat_assoc, cat_assoc])
theorem penD_8 (h : nameB nm = true) : penD ⟨8, p, n, nm, ty, ps, bd⟩ = cat (some [[116, 104, 114, 101, 97, 100], nm]) (cat (penB bd 1) (need (n = 0 ∧ ty = [] ∧ ps.length = 0) (some []))) := by
  unfold penD; rw [need_yes h, cat_nil_l]; exact (need_comm (q := n = 0 ∧ ty = [] ∧ ps.length = 0) _).trans (by rw [cat_assoc])
theorem penD_2 (h : nameB nm = true) : penD ⟨2, p, n, nm, ty, ps, bd⟩ = cat (need (1 ≤ n ∧ n ≤ 4) (some [])) (cat (some [[99, 104, 97, 110], nm, Lib.itoa n, [59]]) (need (ty = [] ∧ ps.length = 0 ∧ bd.length = 0) (some []))) := by
  unfold penD; rw [need_yes h, cat_nil_l]
  show need (1 ≤ n ∧ n ≤ 4 ∧ ty = [] ∧ ps.length = 0 ∧ bd.length = 0) _ = _
  by_cases h1 : 1 ≤ n ∧ n ≤ 4
  · rw [need_cat_yes h1, ← need_comm]
    by_cases h2 : ty = [] ∧ ps.length = 0 ∧ bd.length = 0
    · rw [need_yes h2, need_yes ⟨h1.1, h1.2, h2⟩]
    · rw [need_no h2, need_no (fun e => h2 e.2.2)]
  · rw [need_cat_no h1, need_no (fun e => h1 ⟨e.1, e.2.1⟩)]
theorem penD_3 (h : nameB nm = true) : penD ⟨3, p, n, nm, ty, ps, bd⟩ = cat (some [[115, 116, 114, 117, 99, 116], nm]) (cat (fieldsQ ps) (need (n = 0 ∧ ty = [] ∧ bd.length = 0) (some []))) := by
  unfold penD fieldsQ; rw [need_yes h, cat_nil_l]
  show need (n = 0 ∧ ty = [] ∧ ps.length ≤ 8 ∧ bd.length = 0) _ = _
  by_cases h1 : ps.length ≤ 8
  · rw [need_yes h1]
    by_cases h2 : n = 0 ∧ ty = [] ∧ bd.length = 0
    · rw [need_yes h2, need_yes ⟨h2.1, h2.2.1, h1, h2.2.2⟩, cat_nil_r]
      show cat (cat (some [_, _]) (some [_])) _ = _
      rw [cat_assoc]
    · rw [need_no h2, need_no (fun e => h2 ⟨e.1, e.2.1, e.2.2.2⟩), cat_none_r, cat_none_r]
  · rw [need_no h1, need_no (fun e => h1 e.2.2.1), cat_none_l, cat_none_r]
theorem penD_7 (h : nameB nm = true) : penD ⟨7, p, n, nm, ty, ps, bd⟩ = cat (some [[102, 117, 110, 99], nm]) (cat (paramsQ ps) (cat (if ty = [] then some [] else tyT ty) (cat (penB bd 1) (need (n = 0) (some []))))) := by
  unfold penD paramsQ; rw [need_yes h, cat_nil_l]
  show need (n = 0 ∧ ps.length ≤ 4) _ = _
  by_cases h1 : ps.length ≤ 4
  · rw [need_yes h1]
    by_cases h2 : n = 0
    · rw [need_yes h2, need_yes ⟨h2, h1⟩, cat_nil_r]
      show cat (cat (some [_, _]) (some [_])) _ = _
      rw [cat_assoc, cat_assoc, cat_assoc]
    · rw [need_no h2, need_no (fun e => h2 e.1), cat_none_r, cat_none_r, cat_none_r, cat_none_r]
  · rw [need_no h1, need_no (fun e => h1 e.2), cat_none_l, cat_none_r]
theorem penD_else (k : Int) (hk : k < 1 ∨ 8 < k) : penD ⟨k, p, n, nm, ty, ps, bd⟩ = none := by
  unfold penD
  show cat _ (if k = 1 then _ else _) = _
  rw [if_neg (show ¬ k = 1 by omega), if_neg (show ¬ k = 2 by omega), if_neg (show ¬ k = 3 by omega), if_neg (show ¬ k = 4 by omega), if_neg (show ¬ k = 5 by omega), if_neg (show ¬ k = 6 by omega), if_neg (show ¬ k = 7 by omega), if_neg (show ¬ k = 8 by omega), cat_none_r]
end
section
variable {w w' : World} {g : Nat} {k p u : Int} {n t : ByteArray} {a b : Value}
theorem DcBlk.lt (h : DcBlk w g k p u n t a b) : g < w.heap.size := lt_of_heap h
theorem DcBlk.frz (h : DcBlk w g k p u n t a b) (j : Nat) : w.frozen? ⟨g, j, none⟩ = false := frozen_of_row w g j _ _ h
theorem DcBlk.s2 (h : DcBlk w g k p u n t a b) (x : Int) : DcBlk (w.setCell ⟨g, 2, none⟩ (.int .i64 x)) g k p x n t a b := by
  unfold DcBlk at h ⊢; simp [World.setCell, Array.getElem?_modify, h]
theorem DcBlk.s3 (h : DcBlk w g k p u n t a b) (x : ByteArray) : DcBlk (w.setCell ⟨g, 3, none⟩ (.string x)) g k p u x t a b := by
  unfold DcBlk at h ⊢; simp [World.setCell, Array.getElem?_modify, h]
theorem DcBlk.s4 (h : DcBlk w g k p u n t a b) (x : ByteArray) : DcBlk (w.setCell ⟨g, 4, none⟩ (.string x)) g k p u n x a b := by
  unfold DcBlk at h ⊢; simp [World.setCell, Array.getElem?_modify, h]
theorem DcBlk.s5 (h : DcBlk w g k p u n t a b) (x : Value) : DcBlk (w.setCell ⟨g, 5, none⟩ x) g k p u n t x b := by
  unfold DcBlk at h ⊢; simp [World.setCell, Array.getElem?_modify, h]
theorem DcBlk.s6 (h : DcBlk w g k p u n t a b) (x : Value) : DcBlk (w.setCell ⟨g, 6, none⟩ x) g k p u n t a x := by
  unfold DcBlk at h ⊢; simp [World.setCell, Array.getElem?_modify, h]
theorem DcBlk.apart {Bc Ba B : Nat} {v : Value} {T : List (List UInt8)} (h : DcBlk w g k p u n t a b) (hp : PenAt w Bc Ba B v T) (h1 : Bc < g) (h2 : Ba < g) : ¬ Mine Bc Ba v g := by
  rintro (e | e | e)
  · omega
  · omega
  · obtain ⟨_, cur, hg⟩ := hp.own.blk e
    unfold DcBlk at h; rw [h] at hg; simp at hg
theorem DcBlk.went {w1 : World} {Bc Ba B : Nat} {v v1 : Value} {T T1 : List (List UInt8)} (h : DcBlk w g k p u n t a b) (hp : PenAt w Bc Ba B v T) (h1 : Bc < g) (h2 : Ba < g) (hw : Went w Bc Ba B v w1 v1 T1) : DcBlk w1 g k p u n t a b :=
  (hw.2.2.block g h.lt (h.apart hp h1 h2)).trans h
end
end Go.Proofs.YtjpphbjnakalhaaDoor
