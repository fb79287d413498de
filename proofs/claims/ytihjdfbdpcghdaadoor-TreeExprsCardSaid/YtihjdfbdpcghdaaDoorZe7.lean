/- Xc Xh -/
import Derived.Test.YtihjdfbdpcghdaaDoorZe1
import Derived.IntWalk
section
set_option linter.unusedVariables false
namespace Go.Proofs.YtihjdfbdpcghdaaDoor
open Go.RowKit
def fieldsQ (ps : List Pr) : Ts := need (ps.length ≤ 8) (cat (some [[123]]) (cat (penFs ps) (some [[125]])))
def paramsQ (ps : List Pr) : Ts := need (ps.length ≤ 4) (cat (some [[40]]) (cat (penPs ps 0) (some [[41]])))
section
variable (p n : Int) (nm ty : List UInt8) (ps : List Pr) (bd : List Sm)
theorem need_comm {q : Prop} [Decidable q] (c : Ts) : need q c = cat c (need q (some [])) := by
  by_cases h : q
  · rw [need_yes h, need_yes h, cat_nil_r]
  · rw [need_no h, need_no h, cat_none_r]
theorem penD_name (d : Dc) (h : ¬ nameB d.name = true) : penD d = none := by unfold penD; rw [need_no h, cat_none_l]
theorem penD_1 (h : nameB nm = true) : penD ⟨1, p, n, nm, ty, ps, bd⟩ = cat (some [wordS 5, nm, [59]]) (need (n = 0 ∧ ty = [] ∧ ps.length = 0 ∧ bd.length = 0) (some [])) := by
  unfold penD; rw [need_yes h, cat_nil_l]; exact need_comm (q := n = 0 ∧ ty = [] ∧ ps.length = 0 ∧ bd.length = 0) _
theorem penD_5 (h : nameB nm = true) : penD ⟨5, p, n, nm, ty, ps, bd⟩ = cat (some [[105, 110, 112, 117, 116], nm, [59]]) (need (n = 0 ∧ ty = [] ∧ ps.length = 0 ∧ bd.length = 0) (some [])) := by
  unfold penD; rw [need_yes h, cat_nil_l]; exact need_comm (q := n = 0 ∧ ty = [] ∧ ps.length = 0 ∧ bd.length = 0) _
theorem penD_6 (h : nameB nm = true) : penD ⟨6, p, n, nm, ty, ps, bd⟩ = cat (some [[115, 105, 110, 107], nm, [59]]) (need (n = 0 ∧ ty = [] ∧ ps.length = 0 ∧ bd.length = 0) (some [])) := by
  unfold penD; rw [need_yes h, cat_nil_l]; exact need_comm (q := n = 0 ∧ ty = [] ∧ ps.length = 0 ∧ bd.length = 0) _
theorem penD_4 (h : nameB nm = true) : penD ⟨4, p, n, nm, ty, ps, bd⟩ = cat (some [wordS 1, nm]) (cat (tyT ty) (cat (some [[59]]) (need (n = 0 ∧ ps.length = 0 ∧ bd.length = 0) (some [])))) := by
  unfold penD; rw [need_yes h, cat_nil_l]; exact (need_comm (q := n = 0 ∧ ps.length = 0 ∧ bd.length = 0) _).trans (by rw [cat_assoc, cat_assoc])
theorem penD_8 (h : nameB nm = true) : penD ⟨8, p, n, nm, ty, ps, bd⟩ = cat (some [[116, 104, 114, 101, 97, 100], nm]) (cat (penB bd 1) (need (n = 0 ∧ ty = [] ∧ ps.length = 0) (some []))) := by
  unfold penD; rw [need_yes h, cat_nil_l]; exact (need_comm (q := n = 0 ∧ ty = [] ∧ ps.length = 0) _).trans (by rw [cat_assoc])
theorem penD_2 (h : nameB nm = true) : penD ⟨2, p, n, nm, ty, ps, bd⟩ = cat (need (1 ≤ n ∧ n ≤ 4) (some [])) (cat (some [[99, 104, 97, 110], nm, Lib.itoa n, [59]]) (need (ty = [] ∧ ps.length = 0 ∧ bd.length = 0) (some []))) := by
  unfold penD; rw [need_yes h, cat_nil_l]
  show need (1 ≤ n ∧ n ≤ 4 ∧ ty = [] ∧ ps.length = 0 ∧ bd.length = 0) _ = _
  by_cases h1 : 1 ≤ n ∧ n ≤ 4
  · rw [need_cat_yes h1, ← need_comm]
    by_cases h2 : ty = [] ∧ ps.length = 0 ∧ bd.length = 0
    · rw [need_yes h2, need_yes ⟨h1.1, h1.2, h2⟩]
    · rw [need_no h2, need_no (fun e => h2 e.2.2)]
  · rw [need_cat_no h1, need_no (fun e => h1 ⟨e.1, e.2.1⟩)]
theorem penD_3 (h : nameB nm = true) : penD ⟨3, p, n, nm, ty, ps, bd⟩ = cat (some [[115, 116, 114, 117, 99, 116], nm]) (cat (fieldsQ ps) (need (n = 0 ∧ ty = [] ∧ bd.length = 0) (some []))) := by
  unfold penD fieldsQ; rw [need_yes h, cat_nil_l]
  show need (n = 0 ∧ ty = [] ∧ ps.length ≤ 8 ∧ bd.length = 0) _ = _
  by_cases h1 : ps.length ≤ 8
  · rw [need_yes h1]
    by_cases h2 : n = 0 ∧ ty = [] ∧ bd.length = 0
    · rw [need_yes h2, need_yes ⟨h2.1, h2.2.1, h1, h2.2.2⟩, cat_nil_r]
      show cat (cat (some [_, _]) (some [_])) _ = _
      rw [cat_assoc]
    · rw [need_no h2, need_no (fun e => h2 ⟨e.1, e.2.1, e.2.2.2⟩), cat_none_r, cat_none_r]
  · rw [need_no h1, need_no (fun e => h1 e.2.2.1), cat_none_l, cat_none_r]
theorem penD_7 (h : nameB nm = true) : penD ⟨7, p, n, nm, ty, ps, bd⟩ = cat (some [[102, 117, 110, 99], nm]) (cat (paramsQ ps) (cat (if ty = [] then some [] else tyT ty) (cat (penB bd 1) (need (n = 0) (some []))))) := by
  unfold penD paramsQ; rw [need_yes h, cat_nil_l]
  show need (n = 0 ∧ ps.length ≤ 4) _ = _
  by_cases h1 : ps.length ≤ 4
  · rw [need_yes h1]
    by_cases h2 : n = 0
    · rw [need_yes h2, need_yes ⟨h2, h1⟩, cat_nil_r]
      show cat (cat (some [_, _]) (some [_])) _ = _
      rw [cat_assoc, cat_assoc, cat_assoc]
    · rw [need_no h2, need_no (fun e => h2 e.1), cat_none_r, cat_none_r, cat_none_r, cat_none_r]
  · rw [need_no h1, need_no (fun e => h1 e.2), cat_none_l, cat_none_r]
theorem penD_else (k : Int) (hk : k < 1 ∨ 8 < k) : penD ⟨k, p, n, nm, ty, ps, bd⟩ = none := by
  unfold penD
  show cat _ (if k = 1 then _ else _) = _
  rw [if_neg (show ¬ k = 1 by omega), if_neg (show ¬ k = 2 by omega), if_neg (show ¬ k = 3 by omega), if_neg (show ¬ k = 4 by omega), if_neg (show ¬ k = 5 by omega), if_neg (show ¬ k = 6 by omega), if_neg (show ¬ k = 7 by omega), if_neg (show ¬ k = 8 by omega), cat_none_r]
end
section
variable {w w' : World} {g : Nat} {k p u : Int} {n t : ByteArray} {a b : Value}
theorem DcBlk.lt (h : DcBlk w g k p u n t a b) : g < w.heap.size := lt_of_heap h
theorem DcBlk.frz (h : DcBlk w g k p u n t a b) (j : Nat) : w.frozen? ⟨g, j, none⟩ = false := frozen_of_row w g j _ _ h
theorem DcBlk.s2 (h : DcBlk w g k p u n t a b) (x : Int) : DcBlk (w.setCell ⟨g, 2, none⟩ (.int .i64 x)) g k p x n t a b := by
  unfold DcBlk at h ⊢; simp [World.setCell, Array.getElem?_modify, h]
theorem DcBlk.s3 (h : DcBlk w g k p u n t a b) (x : ByteArray) : DcBlk (w.setCell ⟨g, 3, none⟩ (.string x)) g k p u x t a b := by
  unfold DcBlk at h ⊢; simp [World.setCell, Array.getElem?_modify, h]
theorem DcBlk.s4 (h : DcBlk w g k p u n t a b) (x : ByteArray) : DcBlk (w.setCell ⟨g, 4, none⟩ (.string x)) g k p u n x a b := by
  unfold DcBlk at h ⊢; simp [World.setCell, Array.getElem?_modify, h]
theorem DcBlk.s5 (h : DcBlk w g k p u n t a b) (x : Value) : DcBlk (w.setCell ⟨g, 5, none⟩ x) g k p u n t x b := by
  unfold DcBlk at h ⊢; simp [World.setCell, Array.getElem?_modify, h]
theorem DcBlk.s6 (h : DcBlk w g k p u n t a b) (x : Value) : DcBlk (w.setCell ⟨g, 6, none⟩ x) g k p u n t a x := by
  unfold DcBlk at h ⊢; simp [World.setCell, Array.getElem?_modify, h]
theorem DcBlk.apart {Bc Ba B : Nat} {v : Value} {T : List (List UInt8)} (h : DcBlk w g k p u n t a b) (hp : PenAt w Bc Ba B v T) (h1 : Bc < g) (h2 : Ba < g) : ¬ Mine Bc Ba v g := by
  rintro (e | e | e)
  · omega
  · omega
  · obtain ⟨_, cur, hg⟩ := hp.own.blk e
    unfold DcBlk at h; rw [h] at hg; simp at hg
theorem DcBlk.went {w1 : World} {Bc Ba B : Nat} {v v1 : Value} {T T1 : List (List UInt8)} (h : DcBlk w g k p u n t a b) (hp : PenAt w Bc Ba B v T) (h1 : Bc < g) (h2 : Ba < g) (hw : Went w Bc Ba B v w1 v1 T1) : DcBlk w1 g k p u n t a b :=
  (hw.2.2.block g h.lt (h.apart hp h1 h2)).trans h
end
end Go.Proofs.YtihjdfbdpcghdaaDoor
end
section
set_option linter.unusedVariables false
namespace Go.Proofs.YtihjdfbdpcghdaaDoor
open Go.RowKit
set_option maxRecDepth 100000 in
set_option maxHeartbeats 4000000 in
theorem decl_2_yes {w0 w : World} {Bc Ba B : Nat} {u : Value} {T : List (List UInt8)} {p n : Int} {nm ty : List UInt8} {ps : List Pr} {bd : List Sm} {vp vb : Value} (htab : Tab B w0) (hb : Below B w0 w) (hB : B ≤ w.heap.size) (hp : PenAt w Bc Ba B u T) (hnl : nm.length ≤ 40000) (htl : ty.length ≤ 40000)
    (hps : PrsIn w0 (· < B) ps vp) (hsm : ∀ p ∈ ps, p.name.length ≤ 40000 ∧ p.type.length ≤ 40000) (hbd : WritesB w0 B bd vb) (hbs : ∃ A c, vb = .slice A bd.length c) (hq : nameB nm = true) (hn4 : 1 ≤ n ∧ n ≤ 4) :
    Calls Tryd.prog 42 #[penV Bc Ba, .agg #[.int .i64 2, .int .i64 p, .int .i64 n, .string (strOf nm), .string (strOf ty), vp, vb]] w (PenPost w Bc Ba B u (adv T (penD ⟨2, p, n, nm, ty, ps, bd⟩))) := by
  obtain ⟨Ap, cp, hvp, _, _, _⟩ := id hps
  subst hvp
  obtain ⟨Ab, cb, hvb⟩ := hbs
  subst hvb
  obtain ⟨X, hX⟩ : ∃ X : World, X = w.alloc (.cells #[.int .i64 2, .int .i64 p, .int .i64 n, .string (strOf nm), .string (strOf ty), .slice Ap ps.length cp, .slice Ab bd.length cb] 42) := ⟨_, rfl⟩
  obtain ⟨g, hg⟩ : ∃ g, g = w.heap.size := ⟨_, rfl⟩
  have hd : DcBlk X g 2 p n (strOf nm) (strOf ty) (.slice Ap ps.length cp) (.slice Ab bd.length cb) := by rw [hX, hg]; exact DcBlk.new _ _ _ _ _ _ _ _
  have hw : Went w Bc Ba B u X u T := by rw [hX]; exact (Went.refl hp).alloc _
  have hg1 : Bc < g := by rw [hg]; exact lt_of_heap hp.cnt
  have hg2 : Ba < g := by rw [hg]; exact lt_of_heap hp.buf
  have hwg : w.heap.size ≤ g := by rw [hg]; exact Nat.le_refl _
  have hsz : (strOf nm).size ≤ 40000 := by rw [Lib.size_eq, strOf_data]; exact hnl
  have HX := Lib.hid hX
  have HG := Lib.hid hg
  have HD := Lib.hid hd
  have HW := Lib.hid hw
  have HPS := Lib.hid hps
  have HSM := Lib.hid hsm
  clear hX hg hd hw hps hsm
  have HEQ := Lib.hid (congrArg (adv T) ((penD_2 p n nm ty ps bd hq).trans (by rw [need_cat_yes hn4])))
  have HTN := Lib.hid (takeName_yes ⟨g, 3, none⟩ (strOf nm) X HD.out.c3 (HD.out.frz 3) hsz hq)
  unfold penV
  go_enter Tryd.func42, Tryd.ntmps42
  go_wp2_with fail
  rw [← HX.out, ← HG.out]
  refine HTN.out.mono ?_
  rintro e1 w1 ⟨rfl, wm, hbl, hw1⟩
  have HW1 : Hid (Went w Bc Ba B u w1 u T) := Lib.hid (by rw [hw1]; exact (HW.out.below hbl).setCell _ _ hwg ((HD.out).apart (HW.out).1 hg1 hg2))
  have HD1 := Lib.hid (show DcBlk w1 g 2 p n (strOf []) (strOf ty) (.slice Ap ps.length cp) (.slice Ab bd.length cb) from by rw [hw1]; exact (HD.out.below hbl HD.out.lt).s3 _)
  clear hbl hw1
  have a2 := (HD1.out).c0
  go_wp2_with fail
  have hbt := (hb.trans ((HW1.out).2.2.below hB (fun x hx => (hp.mine hx).1)))
  refine (takeNum_yes ⟨g, 2, none⟩ n 1 4 _ (HD1.out).c2 ((HD1.out).frz 2) hn4.1 hn4.2 (by omega) (by omega) (fun x => htab _ (hbt.setCell (by show B ≤ g; omega) _))).mono ?_
  rintro e3 w3 ⟨rfl, hbl⟩
  have HW3 : Hid (Went w Bc Ba B u w3 u T) := Lib.hid (((HW1.out).setCell ⟨g, 2, none⟩ (.int .i64 0) hwg ((HD1.out).apart (HW1.out).1 hg1 hg2)).below (by have := hbl; simpa [World.setCell] using this))
  have HD3 := Lib.hid (show DcBlk w3 g 2 p 0 (strOf []) (strOf ty) (.slice Ap ps.length cp) (.slice Ab bd.length cb) from ((HD1.out).s2 0).below hbl (by have := (HD1.out).lt; simpa [World.setCell] using this))
  clear hbl hbt
  go_wp2_with fail
  refine (put_new (Went.refl (HW3.out).1) (Nat.le_trans hB (HW3.out).2.2.size) [[99, 104, 97, 110], nm, Lib.itoa n, [59]] (by intro t ht; simp at ht; have := hnl; have := Lib.itoa_length_le n (by omega) (by omega); rcases ht with rfl | rfl | rfl | rfl <;> first | decide | assumption | omega | simp) (by simp)).mono ?_
  rintro e4 w4 hpost
  cases hR : adv T (some [[99, 104, 97, 110], nm, Lib.itoa n, [59]]) with
  | none =>
    rw [hR] at hpost
    obtain ⟨rfl, hch⟩ := hpost
    have HNO := Lib.hid ((HEQ.out).trans (adv_cat_none hR _))
    have HCH := Lib.hid ((HW3.out).fell hch)
    clear hR hch
    unfold boom
    go_wp2
    refine ⟨rfl, ?_⟩
    rw [HNO.out]
    exact ⟨rfl, HCH.out⟩
  | some T4 =>
    rw [hR] at hpost
    obtain ⟨rfl, u4, hwent⟩ := hpost
    have HW4 := Lib.hid ((HW3.out).trans hwent)
    have HD4 := Lib.hid ((HD3.out).went (HW3.out).1 hg1 hg2 hwent)
    have HEQ4 := Lib.hid ((HEQ.out).trans (adv_cat_some hR _))
    clear hwent hR
    have c2 := (HD4.out).c2
    have c4 := (HD4.out).c4
    have c5 := (HD4.out).c5
    have c6 := (HD4.out).c6
    have hz0 : (strOf []).toList = [] := strOf_toList []
    obtain ⟨nx, hnx⟩ : ∃ m, m = ps.length := ⟨_, rfl⟩
    rw [← hnx] at c5
    obtain ⟨nb, hnb⟩ : ∃ m, m = bd.length := ⟨_, rfl⟩
    rw [← hnb] at c6
    by_cases ht : ty = []
    case neg =>
      have HNO := Lib.hid ((HEQ4.out).trans (show adv T4 (need _ (some [])) = none from by rw [need_no (fun h => ht h.1)]; rfl))
      have hs1 : ¬ (strOf ty).toList = [] := by rw [strOf_toList]; exact ht
      clear hnx hnb ht
      go_wp2_with fail
      refine (must_no _).mono ?_
      rintro e9 w9 ⟨rfl, rfl⟩
      unfold boom
      go_wp2
      refine ⟨rfl, ?_⟩
      rw [HNO.out]
      exact ⟨rfl, (HW4.out).2.2⟩
    by_cases hx : ps.length = 0
    case neg =>
      have HNO := Lib.hid ((HEQ4.out).trans (show adv T4 (need _ (some [])) = none from by rw [need_no (fun h => hx h.2.1)]; rfl))
      subst ht
      have hl1 : (nx == 0) = false := by rw [beq_eq_false_iff_ne]; omega
      have hl2 : ((nx : Int) == 0) = false := by rw [beq_eq_false_iff_ne]; omega
      clear hnx hnb hx
      go_wp2_with fail
      refine (must_no _).mono ?_
      rintro e9 w9 ⟨rfl, rfl⟩
      unfold boom
      go_wp2
      refine ⟨rfl, ?_⟩
      rw [HNO.out]
      exact ⟨rfl, (HW4.out).2.2⟩
    by_cases hbl0 : bd.length = 0
    case neg =>
      have HNO := Lib.hid ((HEQ4.out).trans (show adv T4 (need _ (some [])) = none from by rw [need_no (fun h => hbl0 h.2.2)]; rfl))
      subst ht
      obtain rfl : nx = 0 := by omega
      have hl1 : (nb == 0) = false := by rw [beq_eq_false_iff_ne]; omega
      have hl2 : ((nb : Int) == 0) = false := by rw [beq_eq_false_iff_ne]; omega
      clear hnx hnb hx hbl0
      go_wp2_with fail
      refine (must_no _).mono ?_
      rintro e9 w9 ⟨rfl, rfl⟩
      unfold boom
      go_wp2
      refine ⟨rfl, ?_⟩
      rw [HNO.out]
      exact ⟨rfl, (HW4.out).2.2⟩
    have HFIN := Lib.hid ((HEQ4.out).trans (show adv T4 (need _ (some [])) = some T4 from by rw [need_yes ⟨ht, hx, hbl0⟩]; exact adv_nil (HW4.out).1.fit))
    subst ht
    obtain rfl : nx = 0 := by omega
    obtain rfl : nb = 0 := by omega
    clear hnx hnb hx hbl0
    go_wp2_with fail
    refine (must_yes _).mono ?_
    rintro e9 w9 ⟨rfl, rfl⟩
    go_wp2
    go_end0
    rw [HFIN.out]
    exact ⟨rfl, _, HW4.out⟩
set_option maxRecDepth 100000 in
set_option maxHeartbeats 4000000 in
theorem decl_2_no {w0 w : World} {Bc Ba B : Nat} {u : Value} {T : List (List UInt8)} {p n : Int} {nm ty : List UInt8} {ps : List Pr} {bd : List Sm} {vp vb : Value} (htab : Tab B w0) (hb : Below B w0 w) (hB : B ≤ w.heap.size) (hp : PenAt w Bc Ba B u T) (hnl : nm.length ≤ 40000) (htl : ty.length ≤ 40000)
    (hps : PrsIn w0 (· < B) ps vp) (hsm : ∀ p ∈ ps, p.name.length ≤ 40000 ∧ p.type.length ≤ 40000) (hbd : WritesB w0 B bd vb) (hbs : ∃ A c, vb = .slice A bd.length c) (hq : nameB nm = true) (hn4 : ¬ (1 ≤ n ∧ n ≤ 4)) :
    Calls Tryd.prog 42 #[penV Bc Ba, .agg #[.int .i64 2, .int .i64 p, .int .i64 n, .string (strOf nm), .string (strOf ty), vp, vb]] w (PenPost w Bc Ba B u (adv T (penD ⟨2, p, n, nm, ty, ps, bd⟩))) := by
  obtain ⟨Ap, cp, hvp, _, _, _⟩ := id hps
  subst hvp
  obtain ⟨Ab, cb, hvb⟩ := hbs
  subst hvb
  obtain ⟨X, hX⟩ : ∃ X : World, X = w.alloc (.cells #[.int .i64 2, .int .i64 p, .int .i64 n, .string (strOf nm), .string (strOf ty), .slice Ap ps.length cp, .slice Ab bd.length cb] 42) := ⟨_, rfl⟩
  obtain ⟨g, hg⟩ : ∃ g, g = w.heap.size := ⟨_, rfl⟩
  have hd : DcBlk X g 2 p n (strOf nm) (strOf ty) (.slice Ap ps.length cp) (.slice Ab bd.length cb) := by rw [hX, hg]; exact DcBlk.new _ _ _ _ _ _ _ _
  have hw : Went w Bc Ba B u X u T := by rw [hX]; exact (Went.refl hp).alloc _
  have hg1 : Bc < g := by rw [hg]; exact lt_of_heap hp.cnt
  have hg2 : Ba < g := by rw [hg]; exact lt_of_heap hp.buf
  have hwg : w.heap.size ≤ g := by rw [hg]; exact Nat.le_refl _
  have hsz : (strOf nm).size ≤ 40000 := by rw [Lib.size_eq, strOf_data]; exact hnl
  have HX := Lib.hid hX
  have HG := Lib.hid hg
  have HD := Lib.hid hd
  have HW := Lib.hid hw
  have HPS := Lib.hid hps
  have HSM := Lib.hid hsm
  clear hX hg hd hw hps hsm
  have HEQ := Lib.hid (congrArg (adv T) ((penD_2 p n nm ty ps bd hq).trans (by rw [need_cat_no hn4])))
  have HTN := Lib.hid (takeName_yes ⟨g, 3, none⟩ (strOf nm) X HD.out.c3 (HD.out.frz 3) hsz hq)
  unfold penV
  go_enter Tryd.func42, Tryd.ntmps42
  go_wp2_with fail
  rw [← HX.out, ← HG.out]
  refine HTN.out.mono ?_
  rintro e1 w1 ⟨rfl, wm, hbl, hw1⟩
  have HW1 : Hid (Went w Bc Ba B u w1 u T) := Lib.hid (by rw [hw1]; exact (HW.out.below hbl).setCell _ _ hwg ((HD.out).apart (HW.out).1 hg1 hg2))
  have HD1 := Lib.hid (show DcBlk w1 g 2 p n (strOf []) (strOf ty) (.slice Ap ps.length cp) (.slice Ab bd.length cb) from by rw [hw1]; exact (HD.out.below hbl HD.out.lt).s3 _)
  clear hbl hw1
  have a2 := (HD1.out).c0
  go_wp2_with fail
  have HNO := HEQ
  refine (takeNum_no ⟨g, 2, none⟩ n 1 4 _ (HD1.out).c2 hn4).mono ?_
  rintro e8 w8 ⟨rfl, rfl⟩
  have HCH := Lib.hid ((HW1.out).2.2)
  unfold boom
  go_wp2
  refine ⟨rfl, ?_⟩
  rw [HNO.out]
  exact ⟨rfl, HCH.out⟩
end Go.Proofs.YtihjdfbdpcghdaaDoor
end
