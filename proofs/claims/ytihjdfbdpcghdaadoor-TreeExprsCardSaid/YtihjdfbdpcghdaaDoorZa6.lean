/- Uj Uk Um Va Vd Ka Kc -/
import Derived.Test.YtihjdfbdpcghdaaDoorZa4
import Derived.IntWalk
import Derived.Lib.ItoaNum
import Derived.Lib.AppendStr
import Derived.Lib.BufferRead
import Derived.Deep.AppendLies
section
set_option linter.unusedVariables false
namespace Go.Proofs.YtihjdfbdpcghdaaDoor
open Go.RowKit
structure Vs where
  e : Value
  b : Value
  l : Value
def smCells (s : Sm) (f : Vs) : List Value := [.int .i64 s.kind, .int .i64 s.pl, .string (strOf s.name), .string (strOf s.type), f.e, f.b, f.l]
def smsV : List Sm → List Vs → List Value
  | s :: ss, f :: fs => smCells s f ++ smsV ss fs
  | _, _ => []
theorem IsSms.one {w : World} {S : Nat → Prop} {ss : List Sm} {v : Value} (h : IsSms w S ss v) : v.oneCell' = true := by
  cases h; rfl
def SmIn (w : World) (S : Nat → Prop) (s : Sm) (f : Vs) : Prop := s.name.length ≤ 140737488355328 ∧ s.type.length ≤ 140737488355328 ∧ IsExs w S s.exprs f.e ∧ IsSms w S s.body f.b ∧ IsSms w S s.els f.l
theorem SmIn.keep {w w' : World} {S S' : Nat → Prop} {s : Sm} {f : Vs} (h : SmIn w S s f) (hw : ∀ b, S b → w'.heap[b]? = w.heap[b]?) (hS : ∀ b, S b → S' b) : SmIn w' S' s f :=
  ⟨h.1, h.2.1, h.2.2.1.keep hw hS, h.2.2.2.1.keep hw hS, h.2.2.2.2.keep hw hS⟩
def OwnSm (w : World) (base : Nat) (v : Value) (ss : List Sm) : Prop :=
  ∃ fs : List Vs, ss.length = fs.length ∧ w.ownsRow base 39 7 v ss.length (smsV ss fs) ∧
    ∀ (k : Nat) (hk : k < ss.length) (hk' : k < fs.length), SmIn w (fun b => base ≤ b ∧ b < w.heap.size ∧ v.ownBlock ≠ some b) ss[k] fs[k]
theorem OwnSm.lt {w : World} {base : Nat} {v : Value} {ss : List Sm} (h : OwnSm w base v ss) {b : Nat} (hb : v.ownBlock = some b) : base ≤ b ∧ b < w.heap.size := by
  obtain ⟨fs, _, hown, _⟩ := h
  exact hown.lt b hb
theorem OwnSm.below {w w' : World} {base : Nat} {v : Value} {ss : List Sm} (h : OwnSm w base v ss) (hb : Below w.heap.size w w') : OwnSm w' base v ss := by
  obtain ⟨fs, hl, hown, hin⟩ := h
  refine ⟨fs, hl, ?_, fun k hk hk' => (hin k hk hk').keep (fun b hb2 => hb.block b hb2.2.1) (fun b hb2 => ⟨hb2.1, Nat.lt_of_lt_of_le hb2.2.1 hb.size, hb2.2.2⟩)⟩
  rcases hown with ⟨h1, h2 | ⟨g, cap, cur, hv, hbg, hg, h3⟩⟩
  · exact ⟨h1, .inl h2⟩
  · refine ⟨h1, .inr ⟨g, cap, cur, hv, hbg, ?_, h3⟩⟩
    have hlt : g < w.heap.size := by
      rcases Nat.lt_or_ge g w.heap.size with hlt | hge
      · exact hlt
      · rw [Array.getElem?_eq_none hge] at hg; cases hg
    exact (hb.block g hlt).trans hg
theorem OwnSm.nil (w : World) : OwnSm (w.alloc (.cells #[] 39)) w.heap.size (.slice (some ⟨w.heap.size, 0, none⟩) 0 0) [] :=
  ⟨[], rfl, World.ownsRow_lit (e := 39) (size := 7) w #[] 0 (Nat.le_refl _) (by unfold maxLen; omega) rfl, fun k hk => absurd hk (by simp)⟩
mutual
def smallS (N : Nat) : Sm → Prop
  | .mk _ _ n t ex bd el => n.length ≤ N ∧ t.length ≤ N ∧ ex.length ≤ N ∧ smallEs N ex ∧ bd.length ≤ N ∧ smallSs N bd ∧ el.length ≤ N ∧ smallSs N el
def smallSs (N : Nat) : List Sm → Prop
  | [] => True
  | s :: ss => smallS N s ∧ smallSs N ss
end
theorem smallSs_get {N : Nat} : ∀ {ss : List Sm}, smallSs N ss → ∀ (k : Nat) (hk : k < ss.length), smallS N ss[k]
  | [], _, k, hk => absurd hk (by simp)
  | e :: es, h, 0, _ => by rw [smallSs] at h; exact h.1
  | e :: es, h, k + 1, hk => by rw [smallSs] at h; exact smallSs_get h.2 k (by simpa using hk)
theorem smallS_parts {N : Nat} {s : Sm} (h : smallS N s) : s.name.length ≤ N ∧ s.type.length ≤ N ∧ s.exprs.length ≤ N ∧ smallEs N s.exprs ∧ s.body.length ≤ N ∧ smallSs N s.body ∧ s.els.length ≤ N ∧ smallSs N s.els := by
  cases s
  rw [smallS] at h
  exact h
end Go.Proofs.YtihjdfbdpcghdaaDoor
end
section
set_option linter.unusedVariables false
namespace Go.Proofs.YtihjdfbdpcghdaaDoor
open Go.RowKit
def SmBlk (w : World) (g : Nat) (k p : Int) (n t : ByteArray) (a b c : Value) : Prop := w.heap[g]? = some (.cells #[.int .i64 k, .int .i64 p, .string n, .string t, a, b, c] 39 (0, 0))
section
variable {w w' : World} {g B : Nat} {k p : Int} {n t : ByteArray} {a b c : Value}
theorem SmBlk.new (w : World) (k p : Int) (n t : ByteArray) (a b c : Value) : SmBlk (w.alloc (.cells #[.int .i64 k, .int .i64 p, .string n, .string t, a, b, c] 39)) w.heap.size k p n t a b c := heap_alloc_new w _
theorem SmBlk.below (h : SmBlk w g k p n t a b c) (hb : Below B w w') (hg : g < B) : SmBlk w' g k p n t a b c := (hb.block g hg).trans h
theorem SmBlk.c0 (h : SmBlk w g k p n t a b c) : w.cell? ⟨g, 0, none⟩ = some (.int .i64 k) := by rw [cell_of_row w g 0 _ _ (0, 0) h]; rfl
theorem SmBlk.c1 (h : SmBlk w g k p n t a b c) : w.cell? ⟨g, 1, none⟩ = some (.int .i64 p) := by rw [cell_of_row w g 1 _ _ (0, 0) h]; rfl
theorem SmBlk.c2 (h : SmBlk w g k p n t a b c) : w.cell? ⟨g, 2, none⟩ = some (.string n) := by rw [cell_of_row w g 2 _ _ (0, 0) h]; rfl
theorem SmBlk.c3 (h : SmBlk w g k p n t a b c) : w.cell? ⟨g, 3, none⟩ = some (.string t) := by rw [cell_of_row w g 3 _ _ (0, 0) h]; rfl
theorem SmBlk.c4 (h : SmBlk w g k p n t a b c) : w.cell? ⟨g, 4, none⟩ = some a := by rw [cell_of_row w g 4 _ _ (0, 0) h]; rfl
theorem SmBlk.c5 (h : SmBlk w g k p n t a b c) : w.cell? ⟨g, 5, none⟩ = some b := by rw [cell_of_row w g 5 _ _ (0, 0) h]; rfl
theorem SmBlk.c6 (h : SmBlk w g k p n t a b c) : w.cell? ⟨g, 6, none⟩ = some c := by rw [cell_of_row w g 6 _ _ (0, 0) h]; rfl
theorem SmBlk.fr (h : SmBlk w g k p n t a b c) (j : Nat) : w.frozen? ⟨g, j, none⟩ = false := frozen_of_row w g j _ _ h
theorem SmBlk.set4 (h : SmBlk w g k p n t a b c) (u : Value) : SmBlk (w.setCell ⟨g, 4, none⟩ u) g k p n t u b c := by
  unfold SmBlk at h ⊢
  simp [World.setCell, Array.getElem?_modify, h]
theorem SmBlk.set5 (h : SmBlk w g k p n t a b c) (u : Value) : SmBlk (w.setCell ⟨g, 5, none⟩ u) g k p n t a u c := by
  unfold SmBlk at h ⊢
  simp [World.setCell, Array.getElem?_modify, h]
theorem SmBlk.set6 (h : SmBlk w g k p n t a b c) (u : Value) : SmBlk (w.setCell ⟨g, 6, none⟩ u) g k p n t a b u := by
  unfold SmBlk at h ⊢
  simp [World.setCell, Array.getElem?_modify, h]
end
end Go.Proofs.YtihjdfbdpcghdaaDoor
end
section
set_option linter.unusedVariables false
namespace Go.Proofs.YtihjdfbdpcghdaaDoor
open Go.RowKit
structure Pr where
  name : List UInt8
  type : List UInt8
structure Dc where
  kind : Int
  pl : Int
  num : Int
  name : List UInt8
  type : List UInt8
  pairs : List Pr
  body : List Sm
def PrsIn (w : World) (S : Nat → Prop) (ps : List Pr) (v : Value) : Prop :=
  ∃ A c, v = .slice A ps.length c ∧ ps.length ≤ c ∧ c ≤ 9223372036854775807 ∧
    ∀ (k : Nat) (hk : k < ps.length), ∃ b off, A = some ⟨b, off, none⟩ ∧ S b ∧ ps[k].name.length ≤ 140737488355328 ∧ ps[k].type.length ≤ 140737488355328 ∧
      w.cell? ⟨b, off + k * 2, none⟩ = some (.string (strOf ps[k].name)) ∧ w.cell? ⟨b, off + k * 2 + 1, none⟩ = some (.string (strOf ps[k].type))
theorem PrsIn.keep {w w' : World} {S S' : Nat → Prop} {ps : List Pr} {v : Value} (h : PrsIn w S ps v) (hw : ∀ b, S b → w'.heap[b]? = w.heap[b]?) (hS : ∀ b, S b → S' b) : PrsIn w' S' ps v := by
  obtain ⟨A, c, rfl, hc, hM, hA⟩ := h
  refine ⟨A, c, rfl, hc, hM, fun k hk => ?_⟩
  obtain ⟨b, off, h1, h2, h3, h4, c0, c1⟩ := hA k hk
  have hcell : ∀ i, w'.cell? ⟨b, i, none⟩ = w.cell? ⟨b, i, none⟩ := fun i => World.cell?_of_block (hw b h2)
  exact ⟨b, off, h1, hS b h2, h3, h4, by rw [hcell]; exact c0, by rw [hcell]; exact c1⟩
def DcsIn (w : World) (S : Nat → Prop) (ds : List Dc) (v : Value) : Prop :=
  ∃ A c, ∃ fp fb : Nat → Value, v = .slice A ds.length c ∧ ds.length ≤ c ∧ c ≤ 9223372036854775807 ∧
    (∀ (k : Nat) (hk : k < ds.length), ∃ b off, A = some ⟨b, off, none⟩ ∧ S b ∧ ds[k].name.length ≤ 140737488355328 ∧ ds[k].type.length ≤ 140737488355328 ∧
      w.cell? ⟨b, off + k * 7, none⟩ = some (.int .i64 ds[k].kind) ∧ w.cell? ⟨b, off + k * 7 + 1, none⟩ = some (.int .i64 ds[k].pl) ∧ w.cell? ⟨b, off + k * 7 + 2, none⟩ = some (.int .i64 ds[k].num) ∧
      w.cell? ⟨b, off + k * 7 + 3, none⟩ = some (.string (strOf ds[k].name)) ∧ w.cell? ⟨b, off + k * 7 + 4, none⟩ = some (.string (strOf ds[k].type)) ∧
      w.cell? ⟨b, off + k * 7 + 5, none⟩ = some (fp k) ∧ w.cell? ⟨b, off + k * 7 + 6, none⟩ = some (fb k)) ∧
    (∀ (k : Nat) (hk : k < ds.length), PrsIn w S ds[k].pairs (fp k)) ∧ (∀ (k : Nat) (hk : k < ds.length), IsSms w S ds[k].body (fb k))
theorem DcsIn.keep {w w' : World} {S S' : Nat → Prop} {ds : List Dc} {v : Value} (h : DcsIn w S ds v) (hw : ∀ b, S b → w'.heap[b]? = w.heap[b]?) (hS : ∀ b, S b → S' b) : DcsIn w' S' ds v := by
  obtain ⟨A, c, fp, fb, rfl, hc, hM, hA, hp, hb⟩ := h
  refine ⟨A, c, fp, fb, rfl, hc, hM, fun k hk => ?_, fun k hk => (hp k hk).keep hw hS, fun k hk => (hb k hk).keep hw hS⟩
  obtain ⟨b, off, h1, h2, h3, h4, c0, c1, c2, c3, c4, c5, c6⟩ := hA k hk
  have hcell : ∀ i, w'.cell? ⟨b, i, none⟩ = w.cell? ⟨b, i, none⟩ := fun i => World.cell?_of_block (hw b h2)
  exact ⟨b, off, h1, hS b h2, h3, h4, by rw [hcell]; exact c0, by rw [hcell]; exact c1, by rw [hcell]; exact c2, by rw [hcell]; exact c3, by rw [hcell]; exact c4, by rw [hcell]; exact c5, by rw [hcell]; exact c6⟩
def DcBlk (w : World) (g : Nat) (k p u : Int) (n t : ByteArray) (a b : Value) : Prop := w.heap[g]? = some (.cells #[.int .i64 k, .int .i64 p, .int .i64 u, .string n, .string t, a, b] 42 (0, 0))
section
variable {w w' : World} {g B : Nat} {k p u : Int} {n t : ByteArray} {a b : Value}
theorem DcBlk.new (w : World) (k p u : Int) (n t : ByteArray) (a b : Value) : DcBlk (w.alloc (.cells #[.int .i64 k, .int .i64 p, .int .i64 u, .string n, .string t, a, b] 42)) w.heap.size k p u n t a b := heap_alloc_new w _
theorem DcBlk.below (h : DcBlk w g k p u n t a b) (hb : Below B w w') (hg : g < B) : DcBlk w' g k p u n t a b := (hb.block g hg).trans h
theorem DcBlk.c0 (h : DcBlk w g k p u n t a b) : w.cell? ⟨g, 0, none⟩ = some (.int .i64 k) := by rw [cell_of_row w g 0 _ _ (0, 0) h]; rfl
theorem DcBlk.c1 (h : DcBlk w g k p u n t a b) : w.cell? ⟨g, 1, none⟩ = some (.int .i64 p) := by rw [cell_of_row w g 1 _ _ (0, 0) h]; rfl
theorem DcBlk.c2 (h : DcBlk w g k p u n t a b) : w.cell? ⟨g, 2, none⟩ = some (.int .i64 u) := by rw [cell_of_row w g 2 _ _ (0, 0) h]; rfl
theorem DcBlk.c3 (h : DcBlk w g k p u n t a b) : w.cell? ⟨g, 3, none⟩ = some (.string n) := by rw [cell_of_row w g 3 _ _ (0, 0) h]; rfl
theorem DcBlk.c4 (h : DcBlk w g k p u n t a b) : w.cell? ⟨g, 4, none⟩ = some (.string t) := by rw [cell_of_row w g 4 _ _ (0, 0) h]; rfl
theorem DcBlk.c5 (h : DcBlk w g k p u n t a b) : w.cell? ⟨g, 5, none⟩ = some a := by rw [cell_of_row w g 5 _ _ (0, 0) h]; rfl
theorem DcBlk.c6 (h : DcBlk w g k p u n t a b) : w.cell? ⟨g, 6, none⟩ = some b := by rw [cell_of_row w g 6 _ _ (0, 0) h]; rfl
theorem DcBlk.fr (h : DcBlk w g k p u n t a b) (j : Nat) : w.frozen? ⟨g, j, none⟩ = false := frozen_of_row w g j _ _ h
theorem DcBlk.set5 (h : DcBlk w g k p u n t a b) (x : Value) : DcBlk (w.setCell ⟨g, 5, none⟩ x) g k p u n t x b := by
  unfold DcBlk at h ⊢
  simp [World.setCell, Array.getElem?_modify, h]
theorem DcBlk.set6 (h : DcBlk w g k p u n t a b) (x : Value) : DcBlk (w.setCell ⟨g, 6, none⟩ x) g k p u n t a x := by
  unfold DcBlk at h ⊢
  simp [World.setCell, Array.getElem?_modify, h]
end
end Go.Proofs.YtihjdfbdpcghdaaDoor
end
section
set_option linter.unusedVariables false
namespace Go.Proofs.YtihjdfbdpcghdaaDoor
open Go.RowKit
abbrev Ts := Option (List (List UInt8))
def cat (a b : Ts) : Ts := match a with
  | none => none
  | some x => match b with
    | none => none
    | some y => some (x ++ y)
theorem cat_none_l (b : Ts) : cat none b = none := rfl
theorem cat_none_r (a : Ts) : cat a none = none := by cases a <;> rfl
theorem cat_some (x y : List (List UInt8)) : cat (some x) (some y) = some (x ++ y) := rfl
theorem cat_nil_r (a : Ts) : cat a (some []) = a := by cases a <;> simp [cat]
theorem cat_nil_l (a : Ts) : cat (some []) a = a := by cases a <;> simp [cat]
theorem cat_assoc (a b c : Ts) : cat (cat a b) c = cat a (cat b c) := by cases a <;> cases b <;> cases c <;> simp [cat]
def joinT : List (List UInt8) → List UInt8
  | [] => []
  | [t] => t
  | t :: u :: r => t ++ 32 :: joinT (u :: r)
theorem joinT_cons (t : List UInt8) {r : List (List UInt8)} (h : r ≠ []) : joinT (t :: r) = t ++ 32 :: joinT r := by
  cases r with
  | nil => exact absurd rfl h
  | cons u r => rfl
theorem joinT_append {a b : List (List UInt8)} (ha : a ≠ []) (hb : b ≠ []) : joinT (a ++ b) = joinT a ++ 32 :: joinT b := by
  induction a with
  | nil => exact absurd rfl ha
  | cons t a ih =>
    cases a with
    | nil => exact joinT_cons t hb
    | cons u a =>
      have h := ih (by simp)
      show joinT (t :: ((u :: a) ++ b)) = _
      rw [joinT_cons t (by simp), joinT_cons t (r := u :: a) (by simp), h]
      simp
theorem joinT_snoc (a : List (List UInt8)) (t : List UInt8) : joinT (a ++ [t]) = joinT a ++ (if a = [] then [] else [32]) ++ t := by
  by_cases h : a = []
  · subst h; simp [joinT]
  · rw [joinT_append h (by simp), if_neg h]; simp [joinT]
theorem joinT_len_le (a b : List (List UInt8)) : (joinT a).length ≤ (joinT (a ++ b)).length := by
  by_cases ha : a = []
  · subst ha; simp [joinT]
  · by_cases hb : b = []
    · subst hb; simp
    · rw [joinT_append ha hb]; simp
def fits (T : List (List UInt8)) : Prop := (joinT T).length ≤ 16384 ∧ T.length ≤ 4096
instance (T : List (List UInt8)) : Decidable (fits T) := by unfold fits; infer_instance
theorem fits_nil : fits [] := by decide
theorem fits_of_append {a b : List (List UInt8)} (h : fits (a ++ b)) : fits a := by
  refine ⟨Nat.le_trans (joinT_len_le a b) h.1, ?_⟩
  have := h.2
  simp at this; omega
def lim : Ts → Ts
  | none => none
  | some T => if fits T then some T else none
def adv (T : List (List UInt8)) (C : Ts) : Ts := lim (cat (some T) C)
theorem adv_none (T : List (List UInt8)) : adv T none = none := rfl
theorem adv_nil {T : List (List UInt8)} (h : fits T) : adv T (some []) = some T := by simp [adv, cat, lim, h]
theorem adv_some (T x : List (List UInt8)) : adv T (some x) = if fits (T ++ x) then some (T ++ x) else none := rfl
theorem adv_cat_none {T : List (List UInt8)} {C : Ts} (h : adv T C = none) (D : Ts) : adv T (cat C D) = none := by
  cases C with
  | none => rfl
  | some x =>
    cases D with
    | none => rfl
    | some y =>
      rw [adv_some] at h
      rw [cat_some, adv_some, if_neg]
      intro hf
      rw [← List.append_assoc] at hf
      rw [if_pos (fits_of_append hf)] at h
      cases h
theorem adv_cat_some {T U : List (List UInt8)} {C : Ts} (h : adv T C = some U) (D : Ts) : adv T (cat C D) = adv U D := by
  cases C with
  | none => cases h
  | some x =>
    rw [adv_some] at h
    split at h
    · cases h
      cases D with
      | none => rfl
      | some y => rw [cat_some, adv_some, adv_some, List.append_assoc]
    · cases h
def fin (C : Ts) : List UInt8 × Int := match lim C with
  | none => ([], 23)
  | some T => (joinT T, 0)
theorem adv_start (C : Ts) : adv [] C = lim C := by rw [adv, cat_nil_l]
def nmT (s : List UInt8) : Ts := if nameB s = true then some [s] else none
def tyT (t : List UInt8) : Ts :=
  if t.head? = some 42 then (if nameB t.tail = true then some [[42], t.tail] else none)
  else if t = [91, 93, 105, 110, 116] then some [[91], [93], [105, 110, 116]]
  else if t = [105, 110, 116] ∨ t = [98, 111, 111, 108] then some [t] else none
def opsL : List (List UInt8) := [[43], [45], [42], [47], [37], [38], [124], [60], [60, 61], [61, 61], [33, 61]]
def headB (k n : Int) (s : List UInt8) (chain : Int) : Bool :=
  if k = 1 then decide (0 ≤ n ∧ n ≤ 999999999999999999 ∧ s = [])
  else if k = 2 then decide ((n = 0 ∨ n = 1) ∧ s = [])
  else if k = 3 then decide (n = 0 ∧ s = [])
  else if k = 4 then decide (n = 0 ∧ nameB s = true)
  else if k = 5 then decide (n = 0 ∧ nameB s = true ∧ chain < 8)
  else if k = 6 then decide (n = 0 ∧ s = [] ∧ chain < 8)
  else if k = 7 then decide (n = 0 ∧ s = [] ∧ chain < 8)
  else if k = 8 then decide (n = 0 ∧ s = [])
  else if k = 9 then decide (n = 0 ∧ (s = [45] ∨ s = [33]))
  else if k = 10 then decide (n = 0 ∧ s ∈ opsL)
  else if k = 11 then decide (n = 0 ∧ nameB s = true)
  else if k = 12 then decide (n = 0 ∧ s = [])
  else if k = 13 then decide (n = 0 ∧ nameB s = true)
  else false
def argsN (k : Int) : Nat := if k = 5 ∨ k = 8 ∨ k = 9 ∨ k = 12 then 1 else if k = 6 ∨ k = 10 then 2 else if k = 7 then 3 else 0
def behindB (k : Int) : Bool := decide (k = 5 ∨ k = 6 ∨ k = 7)
def shapeE (k n : Int) (s : List UInt8) : List (List (List UInt8)) → List (List UInt8)
  | [] => if k = 1 then [Lib.itoa n] else if k = 2 then (if n = 1 then [[116, 114, 117, 101]] else [[102, 97, 108, 115, 101]]) else if k = 3 then [[110, 105, 108]]
    else if k = 4 then [s] else if k = 11 then [[110, 101, 119], s] else [[114, 101, 108, 101, 97, 115, 101], s]
  | [a] => if k = 5 then a ++ [[46], s] else if k = 8 then [[108, 101, 110], [40]] ++ a ++ [[41]] else if k = 9 then [[40], s] ++ a ++ [[41]] else [[109, 97, 107, 101], [40]] ++ a ++ [[41]]
  | [a, b] => if k = 6 then a ++ [[91]] ++ b ++ [[93]] else [[40]] ++ a ++ [s] ++ b ++ [[41]]
  | a :: b :: c :: _ => a ++ [[91]] ++ b ++ [[58]] ++ c ++ [[93]]
mutual
def penE : Ex → Int → Int → Ts
  | .mk k _ n s args, deep, chain =>
    if deep ≤ 24 ∧ headB k n s chain = true ∧ args.length = argsN k then (penAs args (behindB k) deep chain).map (shapeE k n s) else none
def penAs : List Ex → Bool → Int → Int → Option (List (List (List UInt8)))
  | [], _, _, _ => some []
  | e :: es, b, deep, chain => match (if b = true then penE e deep (chain + 1) else penE e (deep + 1) 0) with
    | none => none
    | some x => match penAs es false deep chain with
      | none => none
      | some xs => some (x :: xs)
end
def penEs : List Ex → Int → Option (List (List (List UInt8)))
  | [], _ => some []
  | e :: es, deep => match penE e deep 0 with
    | none => none
    | some x => match penEs es deep with
      | none => none
      | some xs => some (x :: xs)
def stHead (k : Int) (nm ty : List UInt8) (ex : List Ex) (nb nl : Nat) : Bool :=
  if k = 1 then decide (nameB nm = true ∧ (tyT ty).isSome = true ∧ ex.length = 1 ∧ nb = 0 ∧ nl = 0)
  else if k = 2 then decide (nm = [] ∧ ty = [] ∧ ex.length = 2 ∧ nb = 0 ∧ nl = 0) && (match ex with | [] => false | e :: _ => decide (e.kind = 4 ∨ e.kind = 5 ∨ e.kind = 6))
  else if k = 3 then decide (nm = [] ∧ ty = [] ∧ ex.length = 1)
  else if k = 4 then decide (nm = [] ∧ ty = [] ∧ ex.length = 1 ∧ nl = 0)
  else if k = 5 then decide (nameB nm = true ∧ ty = [] ∧ ex.length = 0 ∧ nb = 0 ∧ nl = 0)
  else if k = 6 then decide (nameB nm = true ∧ ty = [] ∧ ex.length = 0 ∧ nb = 0 ∧ nl = 0)
  else if k = 7 then decide (nameB nm = true ∧ ty = [] ∧ ex.length = 1 ∧ nb = 0 ∧ nl = 0)
  else if k = 8 then decide (nameB nm = true ∧ nameB ty = true ∧ ex.length = 0 ∧ nb = 0 ∧ nl = 0)
  else if k = 9 then decide (nameB nm = true ∧ ty = [] ∧ ex.length = 1 ∧ nb = 0 ∧ nl = 0)
  else if k = 10 then decide (nameB nm = true ∧ (ty = [] ∨ nameB ty = true) ∧ ex.length ≤ 4 ∧ nb = 0 ∧ nl = 0)
  else if k = 11 then decide (nm = [] ∧ ty = [] ∧ ex.length ≤ 1 ∧ nb = 0 ∧ nl = 0)
  else false
def commas : List (List (List UInt8)) → List (List UInt8)
  | [] => []
  | [a] => a
  | a :: b :: r => a ++ [44] :: commas (b :: r)
def wordS (k : Int) : List UInt8 :=
  if k = 1 then [118, 97, 114] else if k = 2 then [115, 101, 116] else if k = 3 then [105, 102] else if k = 4 then [119, 104, 105, 108, 101] else if k = 5 then [108, 111, 99, 107]
  else if k = 6 then [117, 110, 108, 111, 99, 107] else if k = 7 then [115, 101, 110, 100] else if k = 8 then [114, 101, 99, 118] else if k = 9 then [111, 117, 116]
  else if k = 10 then [99, 97, 108, 108] else [114, 101, 116, 117, 114, 110]
def shapeS (k : Int) (nm ty : List UInt8) (xs : List (List (List UInt8))) : List (List UInt8) :=
  if k = 1 then [wordS 1, nm] ++ (tyT ty).getD [] ++ [[61]] ++ xs.flatten ++ [[59]]
  else if k = 2 then [wordS 2] ++ (match xs with | a :: r => a ++ [[61]] ++ r.flatten | [] => []) ++ [[59]]
  else if k = 8 then [wordS 8, nm, ty, [59]]
  else if k = 10 then [wordS 10] ++ (if ty = [] then [] else [ty, [61]]) ++ [nm, [40]] ++ commas xs ++ [[41], [59]]
  else if k = 11 then [wordS 11] ++ xs.flatten ++ [[59]]
  else [wordS k, nm] ++ xs.flatten ++ [[59]]
def inBlock (deep : Int) (c : Ts) : Ts := if deep ≤ 24 then cat (some [[123]]) (cat c (some [[125]])) else none
mutual
def penS : Sm → Int → Ts
  | .mk k _ nm ty ex bd el, deep =>
    if stHead k nm ty ex bd.length el.length = true then
      match penEs ex (deep + 1) with
      | none => none
      | some xs =>
        if k = 3 ∨ k = 4 then cat (some ([wordS k] ++ xs.flatten)) (cat (inBlock (deep + 1) (penSs bd (deep + 1)))
          (if el.length = 0 then some [] else cat (some [[101, 108, 115, 101]]) (inBlock (deep + 1) (penSs el (deep + 1)))))
        else some (shapeS k nm ty xs)
    else none
def penSs : List Sm → Int → Ts
  | [], _ => some []
  | s :: ss, deep => cat (penS s deep) (penSs ss deep)
end
def penB (ss : List Sm) (deep : Int) : Ts := inBlock deep (penSs ss deep)
def penPr (p : Pr) : Ts := cat (nmT p.name) (tyT p.type)
def penFs : List Pr → Ts
  | [] => some []
  | p :: ps => cat (cat (penPr p) (some [[59]])) (penFs ps)
def penPs : List Pr → Nat → Ts
  | [], _ => some []
  | p :: ps, i => cat (cat (some (if i = 0 then [] else [[44]])) (penPr p)) (penPs ps (i + 1))
def need (p : Prop) [Decidable p] (c : Ts) : Ts := if p then c else none
def penD (d : Dc) : Ts :=
  cat (need (nameB d.name = true) (some [])) (
  if d.kind = 1 then need (d.num = 0 ∧ d.type = [] ∧ d.pairs.length = 0 ∧ d.body.length = 0) (some [wordS 5, d.name, [59]])
  else if d.kind = 2 then need (1 ≤ d.num ∧ d.num ≤ 4 ∧ d.type = [] ∧ d.pairs.length = 0 ∧ d.body.length = 0) (some [[99, 104, 97, 110], d.name, Lib.itoa d.num, [59]])
  else if d.kind = 3 then need (d.num = 0 ∧ d.type = [] ∧ d.pairs.length ≤ 8 ∧ d.body.length = 0) (cat (some [[115, 116, 114, 117, 99, 116], d.name, [123]]) (cat (penFs d.pairs) (some [[125]])))
  else if d.kind = 4 then need (d.num = 0 ∧ d.pairs.length = 0 ∧ d.body.length = 0) (cat (some [wordS 1, d.name]) (cat (tyT d.type) (some [[59]])))
  else if d.kind = 5 then need (d.num = 0 ∧ d.type = [] ∧ d.pairs.length = 0 ∧ d.body.length = 0) (some [[105, 110, 112, 117, 116], d.name, [59]])
  else if d.kind = 6 then need (d.num = 0 ∧ d.type = [] ∧ d.pairs.length = 0 ∧ d.body.length = 0) (some [[115, 105, 110, 107], d.name, [59]])
  else if d.kind = 7 then need (d.num = 0 ∧ d.pairs.length ≤ 4) (cat (some [[102, 117, 110, 99], d.name, [40]]) (cat (penPs d.pairs 0) (cat (some [[41]]) (cat (if d.type = [] then some [] else tyT d.type) (penB d.body 1)))))
  else if d.kind = 8 then need (d.num = 0 ∧ d.type = [] ∧ d.pairs.length = 0) (cat (some [[116, 104, 114, 101, 97, 100], d.name]) (penB d.body 1))
  else none)
def penDs : List Dc → Ts
  | [] => some []
  | d :: ds => cat (penD d) (penDs ds)
def penP (ds : List Dc) : Ts := need (ds.length ≤ 64) (penDs ds)
end Go.Proofs.YtihjdfbdpcghdaaDoor
end
section
set_option linter.unusedVariables false
namespace Go.Proofs.YtihjdfbdpcghdaaDoor
open Go.RowKit
def byV (l : List UInt8) : List Value := l.map fun b => Value.int .u8 (b.toNat : Nat)
def OwnBytes (w : World) (base : Nat) (v : Value) (l : List UInt8) : Prop := w.ownsRow base 5 1 v l.length (byV l)
theorem byV_app (a b : List UInt8) : byV (a ++ b) = byV a ++ byV b := by simp [byV]
theorem info_u8 : (Tryd.prog.info? 5).map (fun i => (i.zero, i.size, i.bytes)) = some (some (.int .u8 0), 1, 1) := by kernel_rfl
theorem OwnBytes.nil (w : World) (base : Nat) : OwnBytes w base (.slice none 0 0) [] := ⟨rfl, .inl ⟨rfl, rfl⟩⟩
theorem OwnBytes.keep {w w' : World} {base : Nat} {v : Value} {l : List UInt8} (h : OwnBytes w base v l) (hb : ∀ g, v.ownBlock = some g → w'.heap[g]? = w.heap[g]?) : OwnBytes w' base v l := by
  unfold OwnBytes at h ⊢
  rcases h with ⟨h1, h2 | ⟨g, cap, cur, hv, hbg, hg, h3⟩⟩
  · exact ⟨h1, .inl h2⟩
  · exact ⟨h1, .inr ⟨g, cap, cur, hv, hbg, (hb g (by rw [hv]; rfl)).trans hg, h3⟩⟩
theorem OwnBytes.alloc {w : World} {base : Nat} {v : Value} {l : List UInt8} (h : OwnBytes w base v l) (o : Obj) : OwnBytes (w.alloc o) base v l := World.ownsRow.alloc h o
theorem OwnBytes.conv {w : World} {base : Nat} {v : Value} {l : List UInt8} (h : OwnBytes w base v l) :
    (convert 56 9 v).run Tryd.prog w = .ok (.string (strOf l)) w := by
  rcases h with ⟨h1, ⟨rfl, h2⟩ | ⟨g, cap, cur, rfl, hbg, hg, h3, h4, h5, h6⟩⟩
  · obtain rfl : l = [] := List.eq_nil_of_length_eq_zero h2
    exact Lib.run_convert_nil_bytes w 56 9 5 0 Tryd.underlying56 Tryd.underlying5 Tryd.underlying9
  · refine run_convert_bytes_back w 56 9 5 ⟨g, 0, none⟩ cap l Tryd.underlying56 Tryd.underlying5 Tryd.underlying9 (Lib.bytes_of_row hg ?_)
    rw [Nat.mul_one] at h6
    exact h6
theorem OwnBytes.form {w : World} {base : Nat} {v : Value} {l : List UInt8} (h : OwnBytes w base v l) : ∃ A c, v = .slice A l.length c := by
  rcases h with ⟨h1, ⟨rfl, h2⟩ | ⟨g, cap, cur, rfl, hbg, hg, h3⟩⟩
  · exact ⟨none, 0, by rw [h2]⟩
  · exact ⟨some ⟨g, 0, none⟩, cap, rfl⟩
theorem OwnBytes.blk {w : World} {base : Nat} {v : Value} {l : List UInt8} (h : OwnBytes w base v l) {g : Nat} (hg : v.ownBlock = some g) : base ≤ g ∧ ∃ cur, w.heap[g]? = some (.cells cur 5 (0, 0)) := by
  rcases h with ⟨h1, ⟨rfl, h2⟩ | ⟨g', cap, cur, rfl, hbg, hg', h3⟩⟩
  · cases hg
  · have e : g' = g := by simpa [Value.ownBlock] using hg
    subst e
    exact ⟨hbg, cur, hg'⟩
theorem text_lies {w w' : World} {base : Nat} {v v' : Value} {l t : List UInt8} {ty : TypeId} (hown : OwnBytes w base v l) (hb : l.length + t.length ≤ 100000)
    (hr : (Builtin.append_ #[56, 9] ty #[v, .string (strOf t)]).run Tryd.prog w = .ok v' w') (hn : v' = .slice none 0 0 ↔ v = .slice none 0 0 ∧ (strOf t).size = 0) : v'.ownBlock = v.ownBlock ∨ v'.ownBlock = some w.heap.size := by
  obtain ⟨i0, hi, hz0, hz1, hz2⟩ := info_parts info_u8
  have hsz : (strOf t).size = t.length := by rw [Lib.size_eq, strOf_data]
  rcases hown with ⟨h1, ⟨rfl, h2⟩ | ⟨g, cap, cur, rfl, hbg, hg, h3, h4, h5, h6⟩⟩
  · by_cases hm : (strOf t).size = 0
    · rw [hn.2 ⟨rfl, hm⟩]; exact .inl rfl
    · rw [run_append_nil_string (P := Tryd.prog) w 56 9 ty 5 i0 (.int .u8 0) Tryd.underlying56 Tryd.underlying9 hi hz0 (strOf t) (by omega) (by omega) (by rw [hz2]; omega)] at hr
      cases hr
      exact .inr rfl
  · rw [Nat.mul_one] at h5 h6 h1
    by_cases hroom : l.length + (strOf t).size ≤ cap
    · rw [Lib.run_append_room_string (P := Tryd.prog) w 56 9 ty 5 i0 Tryd.underlying56 Tryd.underlying9 hi hz1 g l.length cap cur hg (strOf t) hroom (by omega)] at hr
      cases hr
      exact .inl rfl
    · have holds : ∀ j u, (byV l)[j]? = some u → w.cell? ((⟨g, 0, none⟩ : Addr).add j) = some u := World.ownsRow.cells (g := g) ⟨by rw [Nat.mul_one]; exact h1, .inr ⟨g, cap, cur, rfl, hbg, hg, h3, h4, by rw [Nat.mul_one]; exact h5, by rw [Nat.mul_one]; exact h6⟩⟩ rfl
      rw [Lib.run_append_grow_string (P := Tryd.prog) w 56 9 ty 5 i0 (.int .u8 0) Tryd.underlying56 Tryd.underlying9 hi hz0 ⟨g, 0, none⟩ l.length cap (byV l) (by rw [hz1, Nat.mul_one]; exact h1) holds (strOf t) (by omega) (by omega) (by rw [hz2]; exact growslice_fits (by omega) (by omega))] at hr
      cases hr
      exact .inr rfl
theorem wpList_append_text {ops : Array Oper} {rest : List Oper} {o : Oper} {a : Act} {w : World} {Q : Exit → Act → World → Prop} (hgd : o.guard = none) (sl x : Operand)
    (ho : o.op = .call { callee := .builtin .append, args := #[sl, x], argTypes := #[56, 9] })
    (base : Nat) (v : Value) (l : List UInt8) (hs : a.eval sl = v) (hown : OwnBytes w base v l) (t : List UInt8) (hx : a.eval x = .string (strOf t)) (hb : l.length + t.length ≤ 100000) (hbase : base ≤ w.heap.size)
    (h : ∀ v' w', OwnBytes w' base v' (l ++ t) → w.grownBy w' v.ownBlock → (v'.ownBlock = v.ownBlock ∨ v'.ownBlock = some w.heap.size) → wpList Tryd.prog ops Q rest (a.put o.dst v') w') : wpList Tryd.prog ops Q (o :: rest) a w := by
  obtain ⟨i0, hi, hz0, hz1, hz2⟩ := info_parts info_u8
  have hsz : (strOf t).size = t.length := by rw [Lib.size_eq, strOf_data]
  refine wpList_plain hgd fun K hK => ?_
  obtain ⟨v', w', hr, h2, h3, h4⟩ := Lib.run_append_own_string (P := Tryd.prog) w base 56 9 o.type 5 i0 Tryd.underlying56 Tryd.underlying9 hi hz0 hz1 hz2 v l.length (byV l) hown (strOf t) (by unfold maxLen; omega) (by omega) hbase
  have hl := text_lies hown hb hr h4
  unfold Oper.wp execOp
  simp only [ho, resolve, invoke, builtin, Sem.run_bind, Sem.run_pure, Result.andThen_ok, List.map_toArray, List.map_cons, List.map_nil, hs, hx, hr]
  refine hK _ _ (h v' w' ?_ h3 hl)
  unfold OwnBytes
  rw [List.length_append, byV_app]
  rw [hsz] at h2
  exact h2
theorem wpList_append_blank {ops : Array Oper} {rest : List Oper} {o : Oper} {a : Act} {w : World} {Q : Exit → Act → World → Prop} (hgd : o.guard = none) (sl x : Operand)
    (ho : o.op = .call { callee := .builtin .append, args := #[sl, x], argTypes := #[56, 56] })
    (base : Nat) (v : Value) (l : List UInt8) (hs : a.eval sl = v) (hown : OwnBytes w base v l) (g c : Nat) (hx : a.eval x = .slice (some ⟨g, 0, none⟩) 1 c) (hg : w.cell? ⟨g, 0, none⟩ = some (.int .u8 32)) (hb : l.length ≤ 100000) (hbase : base ≤ w.heap.size)
    (h : ∀ v' w', OwnBytes w' base v' (l ++ [32]) → w.grownBy w' v.ownBlock → (v'.ownBlock = v.ownBlock ∨ v'.ownBlock = some w.heap.size) → wpList Tryd.prog ops Q rest (a.put o.dst v') w') : wpList Tryd.prog ops Q (o :: rest) a w := by
  obtain ⟨i0, hi, hz0, hz1, hz2⟩ := info_parts info_u8
  refine wpList_append_lies _ hgd sl x 56 ho base 5 i0 (.int .u8 0) 1 1 Tryd.underlying56 hi hz0 hz1 hz2 rfl (by decide) v l.length (byV l) hs hown ⟨g, 0, none⟩ 1 c [.int .u8 32] hx rfl (fun j u hu => ?_) (by simp [Value.oneCell']) (by omega) (by unfold maxLen; omega) (by omega) hbase w.heap.size rfl fun g' cap w' hown' hgr hat _ => h _ w' ?_ hgr ?_
  · match j, hu with
    | 0, hu =>
      have e : Value.int .u8 32 = u := by simpa using hu
      rw [add_pl, ← e]; exact hg
    | j + 1, hu => simp at hu
  · unfold OwnBytes
    rw [List.length_append, byV_app]
    exact hown'
  · rcases hat with h1 | h1
    · exact .inl h1.symm
    · exact .inr (by rw [h1]; rfl)
structure Chg (P : Nat → Prop) (w w' : World) : Prop where
  os : w'.os = w.os
  tape : w'.tape = w.tape
  output : w'.output = w.output
  size : w.heap.size ≤ w'.heap.size
  block : ∀ k, k < w.heap.size → ¬ P k → w'.heap[k]? = w.heap[k]?
theorem Chg.refl (P : Nat → Prop) (w : World) : Chg P w w := ⟨rfl, rfl, rfl, Nat.le_refl _, fun _ _ _ => rfl⟩
theorem Chg.trans {P P' : Nat → Prop} {a b c : World} (h : Chg P a b) (k : Chg P' b c) (hp : ∀ x, x < a.heap.size → P' x → P x) : Chg P a c :=
  ⟨k.os.trans h.os, k.tape.trans h.tape, k.output.trans h.output, Nat.le_trans h.size k.size, fun i hi hn => (k.block i (Nat.lt_of_lt_of_le hi h.size) (fun e => hn (hp i hi e))).trans (h.block i hi hn)⟩
theorem Chg.of_below {P : Nat → Prop} {w w' : World} (h : Below w.heap.size w w') : Chg P w w' := ⟨h.os, h.tape, h.output, h.size, fun k hk _ => h.block k hk⟩
theorem Chg.alloc {P : Nat → Prop} {a w : World} (h : Chg P a w) (o : Obj) : Chg P a (w.alloc o) :=
  h.trans (P' := fun _ => False) ⟨rfl, rfl, rfl, by simp, fun k hk _ => Below.heap_alloc _ _ _ hk⟩ (fun _ _ e => e.elim)
theorem Chg.setCell {P : Nat → Prop} {a w : World} (h : Chg P a w) (p : Addr) (u : Value) (hp : p.block < a.heap.size → P p.block) : Chg P a (w.setCell p u) :=
  h.trans (P' := fun x => x = p.block) ⟨rfl, rfl, rfl, by simp [World.setCell], fun k hk hn => Below.heap_setCell _ _ _ _ hn⟩ (fun x hx e => by rw [e]; exact hp (by rw [← e]; exact hx))
theorem Chg.grown {P : Nat → Prop} {a w w' : World} {row : Option Nat} (h : Chg P a w) (hg : w.grownBy w' row) (hr : ∀ k, k < a.heap.size → row = some k → P k) : Chg P a w' :=
  h.trans (P' := fun x => row = some x) ⟨hg.os, hg.tape, hg.output, hg.size, fun k hk hn => hg.block k hk (fun e => hn e.symm)⟩ hr
theorem Chg.below {P : Nat → Prop} {w w' : World} {B : Nat} (h : Chg P w w') (hB : B ≤ w.heap.size) (hp : ∀ x, P x → B ≤ x) : Below B w w' :=
  ⟨h.os, h.tape, h.output, h.size, fun k hk => h.block k (by omega) (fun e => by have := hp k e; omega)⟩
theorem Chg.cell {P : Nat → Prop} {w w' : World} (h : Chg P w w') {p : Addr} {v : Value} (hc : w.cell? p = some v) (hn : ¬ P p.block) : w'.cell? p = some v :=
  (World.cell?_of_block (w := w) (h.block p.block (lt_of_cell hc) hn)).trans hc
theorem Chg.drew {P : Nat → Prop} {a w : World} (h : Chg P a w) : Chg P a w.drew := ⟨h.os, h.tape, h.output, h.size, h.block⟩
structure PenAt (w : World) (Bc Ba base : Nat) (v : Value) (T : List (List UInt8)) : Prop where
  cnt : w.heap[Bc]? = some (.cells #[.int .i64 T.length] 3 (0, 0))
  buf : w.heap[Ba]? = some (.cells #[v] 56 (0, 0))
  own : OwnBytes w base v (joinT T)
  fit : fits T
  bc : base ≤ Bc
  ba : base ≤ Ba
def Mine (Bc Ba : Nat) (v : Value) (b : Nat) : Prop := b = Bc ∨ b = Ba ∨ v.ownBlock = some b
theorem lt_of_heap {w : World} {g : Nat} {o : Obj} (h : w.heap[g]? = some o) : g < w.heap.size := by
  rcases Nat.lt_or_ge g w.heap.size with hlt | hge
  · exact hlt
  · rw [Array.getElem?_eq_none hge] at h; cases h
section
variable {w w' w1 w2 : World} {Bc Ba base : Nat} {v v' v1 v2 : Value} {T T' T1 T2 : List (List UInt8)}
theorem PenAt.ne (h : PenAt w Bc Ba base v T) : Bc ≠ Ba := fun e => by
  have h1 := h.cnt
  rw [e, h.buf] at h1
  simp at h1
theorem PenAt.nec (h : PenAt w Bc Ba base v T) : v.ownBlock ≠ some Bc := fun e => by
  obtain ⟨_, cur, hg⟩ := h.own.blk e
  rw [h.cnt] at hg
  simp at hg
theorem PenAt.nea (h : PenAt w Bc Ba base v T) : v.ownBlock ≠ some Ba := fun e => by
  obtain ⟨_, cur, hg⟩ := h.own.blk e
  rw [h.buf] at hg
  simp at hg
theorem PenAt.mine (h : PenAt w Bc Ba base v T) {b : Nat} (hb : Mine Bc Ba v b) : base ≤ b ∧ b < w.heap.size := by
  rcases hb with rfl | rfl | hb
  · exact ⟨h.bc, lt_of_heap h.cnt⟩
  · exact ⟨h.ba, lt_of_heap h.buf⟩
  · obtain ⟨h1, cur, hg⟩ := h.own.blk hb
    exact ⟨h1, lt_of_heap hg⟩
theorem PenAt.keep (h : PenAt w Bc Ba base v T) (hk : ∀ b, Mine Bc Ba v b → w'.heap[b]? = w.heap[b]?) : PenAt w' Bc Ba base v T :=
  ⟨(hk Bc (.inl rfl)).trans h.cnt, (hk Ba (.inr (.inl rfl))).trans h.buf, h.own.keep fun g hg => hk g (.inr (.inr hg)), h.fit, h.bc, h.ba⟩
theorem PenAt.alloc (h : PenAt w Bc Ba base v T) (o : Obj) : PenAt (w.alloc o) Bc Ba base v T := h.keep fun b hb => Below.heap_alloc _ _ _ (h.mine hb).2
theorem PenAt.below (h : PenAt w Bc Ba base v T) (hb : Below w.heap.size w w') : PenAt w' Bc Ba base v T := h.keep fun b hm => hb.block b (h.mine hm).2
theorem PenAt.setCell (h : PenAt w Bc Ba base v T) (p : Addr) (u : Value) (hp : ¬ Mine Bc Ba v p.block) : PenAt (w.setCell p u) Bc Ba base v T :=
  h.keep fun b hb => Below.heap_setCell _ _ _ _ (fun e => hp (by rw [← e]; exact hb))
theorem PenAt.drew (h : PenAt w Bc Ba base v T) : PenAt w.drew Bc Ba base v T := h.keep fun b hb => rfl
def Went (w : World) (Bc Ba base : Nat) (v : Value) (w' : World) (v' : Value) (T' : List (List UInt8)) : Prop :=
  PenAt w' Bc Ba base v' T' ∧ (∀ b, v'.ownBlock = some b → v.ownBlock = some b ∨ w.heap.size ≤ b) ∧ Chg (Mine Bc Ba v) w w'
theorem Went.mine (h : Went w Bc Ba base v w' v' T') {b : Nat} (hb : Mine Bc Ba v' b) (hlt : b < w.heap.size) : Mine Bc Ba v b := by
  rcases hb with rfl | rfl | hb
  · exact .inl rfl
  · exact .inr (.inl rfl)
  · rcases h.2.1 b hb with h1 | h1
    · exact .inr (.inr h1)
    · omega
theorem Went.refl (h : PenAt w Bc Ba base v T) : Went w Bc Ba base v w v T := ⟨h, fun b hb => .inl hb, Chg.refl _ _⟩
theorem Went.trans (h : Went w Bc Ba base v w1 v1 T1) (k : Went w1 Bc Ba base v1 w2 v2 T2) : Went w Bc Ba base v w2 v2 T2 := by
  refine ⟨k.1, fun b hb => ?_, h.2.2.trans k.2.2 fun x hx hm => h.mine hm hx⟩
  rcases k.2.1 b hb with h1 | h1
  · exact h.2.1 b h1
  · have := h.2.2.size; exact .inr (by omega)
theorem Went.fell (h : Went w Bc Ba base v w1 v1 T1) (k : Chg (Mine Bc Ba v1) w1 w2) : Chg (Mine Bc Ba v) w w2 := h.2.2.trans k fun x hx hm => h.mine hm hx
theorem Went.alloc (h : Went w Bc Ba base v w1 v1 T1) (o : Obj) : Went w Bc Ba base v (w1.alloc o) v1 T1 := ⟨h.1.alloc o, h.2.1, h.2.2.alloc o⟩
theorem Went.below (h : Went w Bc Ba base v w1 v1 T1) (hb : Below w1.heap.size w1 w2) : Went w Bc Ba base v w2 v1 T1 := ⟨h.1.below hb, h.2.1, h.2.2.trans (Chg.of_below (P := fun _ => False) hb) fun _ _ e => e.elim⟩
theorem Went.setCell (h : Went w Bc Ba base v w1 v1 T1) (p : Addr) (u : Value) (hp : w.heap.size ≤ p.block) (hm : ¬ Mine Bc Ba v1 p.block) : Went w Bc Ba base v (w1.setCell p u) v1 T1 :=
  ⟨h.1.setCell p u hm, h.2.1, h.2.2.setCell p u fun e => by omega⟩
theorem Went.drew (h : Went w Bc Ba base v w1 v1 T1) : Went w Bc Ba base v w1.drew v1 T1 := ⟨h.1.drew, h.2.1, h.2.2.drew⟩
def PenPost (w : World) (Bc Ba base : Nat) (v : Value) (R : Ts) (e : Ending) (w' : World) : Prop := match R with
  | some T' => e = .returned (.tuple #[]) ∧ ∃ v', Went w Bc Ba base v w' v' T'
  | none => e = boom ∧ Chg (Mine Bc Ba v) w w'
def StrsAt (w : World) (P : Nat → Prop) (tv : Value) (ts : List (List UInt8)) : Prop :=
  ∃ A c, tv = .slice A ts.length c ∧ ts.length ≤ c ∧ c ≤ 9223372036854775807 ∧ ∀ (k : Nat) (hk : k < ts.length), ∃ b off, A = some ⟨b, off, none⟩ ∧ ¬ P b ∧ ts[k].length ≤ 40000 ∧ w.cell? ⟨b, off + k, none⟩ = some (.string (strOf ts[k]))
end
end Go.Proofs.YtihjdfbdpcghdaaDoor
end
section
set_option linter.unusedVariables false
set_option linter.unusedSimpArgs false
namespace Go.Proofs.YtihjdfbdpcghdaaDoor
open Go.RowKit
def ownN (k : Int) : Int := if k = 5 ∨ k = 6 ∨ k = 11 ∨ k = 13 then 2 else if k = 7 ∨ k = 8 ∨ k = 9 ∨ k = 10 ∨ k = 12 then 3 else 1
def numB (k n : Int) : Bool := decide (n = 0 ∨ (k = 1 ∧ 0 < n ∧ n < 1000000000000000000) ∨ (k = 2 ∧ n = 1))
def nameK (k : Int) (s : List UInt8) : Bool := if k = 4 ∨ k = 5 ∨ k = 11 ∨ k = 13 then nameB s else if k = 9 then decide (s = [45] ∨ s = [33]) else if k = 10 then decide (s ∈ opsL) else decide (s = [])
mutual
def exprB : Ex → Int → Int → Int → Int
  | .mk k _ n s args, depth, chain, left =>
    if left < 1 ∨ 24 < depth ∨ k < 1 ∨ 13 < k ∨ args.length ≠ argsN k then -1
    else if numB k n = true ∧ nameK k s = true then exprBs args (behindB k) depth chain (left - ownN k) else -1
def exprBs : List Ex → Bool → Int → Int → Int → Int
  | [], _, _, _, left => left
  | e :: es, b, depth, chain, left => if left < 0 then left else if b = true then (if chain = 8 then -1 else exprBs es false depth chain (exprB e depth (chain + 1) left)) else exprBs es false depth chain (exprB e (depth + 1) 0 left)
end
theorem kinds {k : Int} (h1 : 1 ≤ k) (h2 : k ≤ 13) : k = 1 ∨ k = 2 ∨ k = 3 ∨ k = 4 ∨ k = 5 ∨ k = 6 ∨ k = 7 ∨ k = 8 ∨ k = 9 ∨ k = 10 ∨ k = 11 ∨ k = 12 ∨ k = 13 := by omega
theorem head_kind {k n chain : Int} {s : List UInt8} (h : headB k n s chain = true) : 1 ≤ k ∧ k ≤ 13 := by
  unfold headB at h
  by_cases h1 : 1 ≤ k ∧ k ≤ 13
  · exact h1
  · rw [if_neg (by omega), if_neg (by omega), if_neg (by omega), if_neg (by omega), if_neg (by omega), if_neg (by omega), if_neg (by omega), if_neg (by omega), if_neg (by omega), if_neg (by omega), if_neg (by omega), if_neg (by omega), if_neg (by omega)] at h
    cases h
theorem head_iff {k n chain : Int} {s : List UInt8} (h1 : 1 ≤ k) (h2 : k ≤ 13) : headB k n s chain = true ↔ (numB k n = true ∧ nameK k s = true) ∧ (behindB k = true → chain < 8) := by
  unfold headB numB nameK behindB
  rcases kinds h1 h2 with rfl | rfl | rfl | rfl | rfl | rfl | rfl | rfl | rfl | rfl | rfl | rfl | rfl
  all_goals
    first
    | (simp [and_assoc]; done)
    | (simp
       constructor
       · rintro ⟨a, b, c⟩; exact ⟨by omega, c⟩
       · rintro ⟨a, c⟩; exact ⟨by omega, by omega, c⟩)
theorem shape_len {k n : Int} {s : List UInt8} {xs : List (List (List UInt8))} (h1 : 1 ≤ k) (h2 : k ≤ 13) (h : xs.length = argsN k) : ((shapeE k n s xs).length : Int) = ownN k + ((xs.map List.length).sum : Nat) := by
  unfold argsN at h
  unfold ownN
  rcases kinds h1 h2 with rfl | rfl | rfl | rfl | rfl | rfl | rfl | rfl | rfl | rfl | rfl | rfl | rfl
  all_goals rcases xs with _ | ⟨a, _ | ⟨b, _ | ⟨c, _ | ⟨d, r⟩⟩⟩⟩
  all_goals
    first
    | (exfalso; simp at h; done)
    | (simp [shapeE]; done)
    | (simp [shapeE]; omega)
    | (simp only [shapeE]; split <;> simp; done)
    | (simp [shapeE]; split <;> simp; done)
theorem penAs_len : ∀ (es : List Ex) (b : Bool) (d c : Int) (xs : List (List (List UInt8))), penAs es b d c = some xs → xs.length = es.length
  | [], b, d, c, xs, h => by rw [penAs] at h; cases h; rfl
  | e :: es, b, d, c, xs, h => by
    rw [penAs] at h
    split at h
    · cases h
    · split at h
      · cases h
      · rename_i x _ ys h3
        cases h
        rw [List.length_cons, List.length_cons, penAs_len es false d c ys h3]
def Left (r left : Int) : Option Nat → Prop
  | none => r < 0
  | some n => if (n : Int) ≤ left then r = left - n else r < 0
mutual
theorem exprB_pen : ∀ (e : Ex) (depth chain left : Int), chain ≤ 8 → Left (exprB e depth chain left) left ((penE e depth chain).map List.length) ∧ ∀ T, penE e depth chain = some T → 1 ≤ T.length
  | .mk k p n s args, depth, chain, left, hc => by
    rw [exprB, penE]
    by_cases hk : 1 ≤ k ∧ k ≤ 13
    · obtain ⟨k1, k2⟩ := hk
      by_cases hd : depth ≤ 24 ∧ headB k n s chain = true ∧ args.length = argsN k
      · obtain ⟨d1, d2, d3⟩ := hd
        obtain ⟨d4, d5⟩ := (head_iff k1 k2).1 d2
        have dd : depth ≤ 24 ∧ headB k n s chain = true ∧ args.length = argsN k := ⟨d1, d2, d3⟩
        rw [if_pos dd, if_pos d4]
        have hs := exprBs_pen args (behindB k) depth chain (left - ownN k) hc d5
        cases hp : penAs args (behindB k) depth chain with
        | none =>
          rw [hp] at hs
          refine ⟨?_, fun T h => by cases h⟩
          show ite _ _ _ < 0
          split
          · omega
          · exact hs
        | some xs =>
          rw [hp] at hs
          have hl := shape_len (n := n) (s := s) k1 k2 ((penAs_len _ _ _ _ _ hp).trans d3)
          have ho : 1 ≤ ownN k := by unfold ownN; split <;> (try split) <;> omega
          have h1 : 1 ≤ (shapeE k n s xs).length := by omega
          refine ⟨?_, fun T h => by cases h; exact h1⟩
          have hs' : if (((xs.map List.length).sum : Nat) : Int) ≤ left - ownN k then exprBs args (behindB k) depth chain (left - ownN k) = left - ownN k - ((xs.map List.length).sum : Nat) else exprBs args (behindB k) depth chain (left - ownN k) < 0 := hs
          show if (((shapeE k n s xs).length : Nat) : Int) ≤ left then ite _ _ _ = left - ((shapeE k n s xs).length : Nat) else ite _ _ _ < 0
          by_cases hle : (((shapeE k n s xs).length : Nat) : Int) ≤ left
          · rw [if_pos hle, if_neg (by omega)]
            rw [if_pos (by omega)] at hs'
            omega
          · rw [if_neg hle]
            split
            · omega
            · rw [if_neg (by omega)] at hs'
              exact hs'
      · rw [if_neg hd]
        refine ⟨?_, fun T h => by cases h⟩
        show ite _ _ _ < 0
        split
        · omega
        · split
          · rename_i h3 h4
            have h5 : ¬ (behindB k = true → chain < 8) := fun h5 => hd ⟨by omega, (head_iff k1 k2).2 ⟨h4, h5⟩, by omega⟩
            have hb : behindB k = true := by
              by_cases hb : behindB k = true
              · exact hb
              · exact absurd (fun h => absurd h hb) h5
            have hc8 : chain = 8 := by
              by_cases h8 : chain < 8
              · exact absurd (fun _ => h8) h5
              · omega
            have hal : args.length = argsN k := by omega
            have hk2 : k = 5 ∨ k = 6 ∨ k = 7 := by unfold behindB at hb; simpa using hb
            cases args with
            | nil =>
              unfold argsN at hal
              rcases hk2 with rfl | rfl | rfl <;> simp at hal
            | cons e es =>
              rw [exprBs, hb, if_pos rfl, if_pos hc8]
              split <;> omega
          · omega
    · have dd : ¬ (depth ≤ 24 ∧ headB k n s chain = true ∧ args.length = argsN k) := fun h => hk (head_kind h.2.1)
      rw [if_neg dd, if_pos (by omega)]
      exact ⟨(by show (-1 : Int) < 0; omega), fun T h => by cases h⟩
theorem exprBs_pen : ∀ (es : List Ex) (b : Bool) (depth chain left : Int), chain ≤ 8 → (b = true → chain < 8) → Left (exprBs es b depth chain left) left ((penAs es b depth chain).map fun xs => (xs.map List.length).sum)
  | [], b, depth, chain, left, hc, hb => by
    rw [exprBs, penAs]
    show if (((0 : Nat)) : Int) ≤ left then left = left - ((0 : Nat) : Int) else left < 0
    split <;> omega
  | e :: es, b, depth, chain, left, hc, hb => by
    rw [exprBs, penAs]
    by_cases hl : left < 0
    · rw [if_pos hl]
      split
      · exact hl
      · split
        · exact hl
        · show if _ then _ else _
          rw [if_neg (by omega)]
          exact hl
    · rw [if_neg hl]
      have key : ∀ (r : Int) (c : Ts), (Left r left (c.map List.length)) → Left (exprBs es false depth chain r) left (Option.map (fun xs => (List.map List.length xs).sum) (match c with | none => none | some x => match penAs es false depth chain with | none => none | some xs => some (x :: xs))) := by
        intro r c hr
        have hs := exprBs_pen es false depth chain r hc (fun h => by cases h)
        cases c with
        | none =>
          have hr' : r < 0 := hr
          cases es with
          | nil => rw [exprBs]; exact hr'
          | cons e2 es2 => rw [exprBs, if_pos hr']; exact hr'
        | some x =>
          have hr' : if ((x.length : Nat) : Int) ≤ left then r = left - (x.length : Nat) else r < 0 := hr
          cases hp : penAs es false depth chain with
          | none => rw [hp] at hs; exact hs
          | some xs =>
            rw [hp] at hs
            have hs' : if (((xs.map List.length).sum : Nat) : Int) ≤ r then exprBs es false depth chain r = r - ((xs.map List.length).sum : Nat) else exprBs es false depth chain r < 0 := hs
            show if ((((x :: xs).map List.length).sum : Nat) : Int) ≤ left then exprBs es false depth chain r = left - (((x :: xs).map List.length).sum : Nat) else exprBs es false depth chain r < 0
            simp only [List.map_cons, List.sum_cons]
            split
            · rw [if_pos (by omega)] at hr'
              rw [if_pos (by omega)] at hs'
              omega
            · by_cases h2 : ((x.length : Nat) : Int) ≤ left
              · rw [if_pos h2] at hr'
                rw [if_neg (by omega)] at hs'
                exact hs'
              · rw [if_neg h2] at hr'
                rw [if_neg (by omega)] at hs'
                exact hs'
      by_cases hb1 : b = true
      · rw [if_pos hb1, if_pos hb1, if_neg (by have := hb hb1; omega)]
        exact key _ _ (exprB_pen e depth (chain + 1) left (by have := hb hb1; omega)).1
      · rw [if_neg hb1, if_neg hb1]
        exact key _ _ (exprB_pen e (depth + 1) 0 left (by omega)).1
end
end Go.Proofs.YtihjdfbdpcghdaaDoor
end
section
set_option linter.unusedVariables false
set_option linter.unusedSimpArgs false
namespace Go.Proofs.YtihjdfbdpcghdaaDoor
open Go.RowKit
def stV (l : List (List UInt8)) : List Value := l.map fun t => Value.string (strOf t)
theorem stV_app (a b : List (List UInt8)) : stV (a ++ b) = stV a ++ stV b := by simp [stV]
theorem stV_len (a : List (List UInt8)) : (stV a).length = a.length := by simp [stV]
theorem stV_one {t : List (List UInt8)} : ∀ u ∈ stV t, u.oneCell' = true := fun u hu => by
  obtain ⟨x, _, rfl⟩ := List.mem_map.1 hu
  rfl
def OwnStrs (w : World) (base : Nat) (v : Value) (l : List (List UInt8)) : Prop := w.ownsRow base 9 1 v l.length (stV l)
theorem info_str : (Tryd.prog.info? 9).map (fun i => (i.zero, i.size, i.bytes)) = some (some (.string ⟨#[]⟩), 1, 16) := by kernel_rfl
theorem info_strs : (Tryd.prog.info? 34).map (fun i => (i.zero, i.size, i.bytes)) = some (some (.slice none 0 0), 1, 24) := by kernel_rfl
def StrsIn (w : World) (B : Nat) (v : Value) (t : List (List UInt8)) : Prop :=
  ∃ g c cur, v = .slice (some ⟨g, 0, none⟩) t.length c ∧ g < B ∧ w.heap[g]? = some (.cells cur 9 (0, 0)) ∧ ∀ (j : Nat) (u : Value), (stV t)[j]? = some u → w.cell? ((⟨g, 0, none⟩ : Addr).add j) = some u
theorem StrsIn.keep {w w' : World} {B B' : Nat} {v : Value} {t : List (List UInt8)} (h : StrsIn w B v t) (hb : ∀ g, v.ownBlock = some g → w'.heap[g]? = w.heap[g]?) (hB : B ≤ B') : StrsIn w' B' v t := by
  obtain ⟨g, c, cur, rfl, hg, hc, hj⟩ := h
  have e := hb g rfl
  refine ⟨g, c, cur, rfl, by omega, e.trans hc, fun j u hu => ?_⟩
  have e2 : w'.heap[((⟨g, 0, none⟩ : Addr).add j).block]? = w.heap[((⟨g, 0, none⟩ : Addr).add j).block]? := by rw [add_pl]; exact e
  exact (World.cell?_of_block (w := w) e2).trans (hj j u hu)
theorem StrsIn.below {w w' : World} {B B' K : Nat} {v : Value} {t : List (List UInt8)} (h : StrsIn w B v t) (hb : Below K w w') (hK : B ≤ K) (hB : B ≤ B') : StrsIn w' B' v t := by
  refine h.keep (fun g hg => ?_) hB
  obtain ⟨g', c, cur, rfl, hlt, _, _⟩ := h
  have e : g' = g := by simpa [Value.ownBlock] using hg
  subst e
  exact hb.block _ (by omega)
theorem OwnStrs.nil (w : World) (base : Nat) : OwnStrs w base (.slice none 0 0) [] := ⟨rfl, .inl ⟨rfl, rfl⟩⟩
theorem OwnStrs.base {w : World} {b b' : Nat} {v : Value} {l : List (List UInt8)} (h : OwnStrs w b v l) (hb : b' ≤ b) : OwnStrs w b' v l := by
  rcases h with ⟨h1, h2 | ⟨g, cap, cur, hv, hbg, hg, h3⟩⟩
  · exact ⟨h1, .inl h2⟩
  · exact ⟨h1, .inr ⟨g, cap, cur, hv, by omega, hg, h3⟩⟩
theorem OwnStrs.keep {w w' : World} {base : Nat} {v : Value} {l : List (List UInt8)} (h : OwnStrs w base v l) (hb : ∀ g, v.ownBlock = some g → w'.heap[g]? = w.heap[g]?) : OwnStrs w' base v l := by
  unfold OwnStrs at h ⊢
  rcases h with ⟨h1, h2 | ⟨g, cap, cur, hv, hbg, hg, h3⟩⟩
  · exact ⟨h1, .inl h2⟩
  · exact ⟨h1, .inr ⟨g, cap, cur, hv, hbg, (hb g (by rw [hv]; rfl)).trans hg, h3⟩⟩
theorem OwnStrs.alloc {w : World} {base : Nat} {v : Value} {l : List (List UInt8)} (h : OwnStrs w base v l) (o : Obj) : OwnStrs (w.alloc o) base v l := World.ownsRow.alloc h o
theorem OwnStrs.lt {w : World} {base : Nat} {v : Value} {l : List (List UInt8)} (h : OwnStrs w base v l) {g : Nat} (hg : v.ownBlock = some g) : base ≤ g ∧ g < w.heap.size := by
  rcases h with ⟨h1, ⟨rfl, h2⟩ | ⟨g', cap, cur, rfl, hbg, hg', h3⟩⟩
  · cases hg
  · have e : g' = g := by simpa [Value.ownBlock] using hg
    subst e
    exact ⟨hbg, lt_of_heap hg'⟩
theorem OwnStrs.below {w w' : World} {base : Nat} {v : Value} {l : List (List UInt8)} (h : OwnStrs w base v l) (hb : Below w.heap.size w w') : OwnStrs w' base v l :=
  h.keep fun g hg => hb.block g (h.lt hg).2
theorem OwnStrs.inn {w : World} {base : Nat} {v : Value} {l : List (List UInt8)} (h : OwnStrs w base v l) (hl : l ≠ []) : StrsIn w w.heap.size v l := by
  have hh := h
  rcases h with ⟨h1, ⟨rfl, h2⟩ | ⟨g, cap, cur, rfl, hbg, hg, h3⟩⟩
  · exact absurd (List.eq_nil_of_length_eq_zero h2) hl
  · exact ⟨g, cap, cur, rfl, lt_of_heap hg, hg, World.ownsRow.cells (g := g) hh rfl⟩
theorem OwnStrs.form {w : World} {base : Nat} {v : Value} {l : List (List UInt8)} (h : OwnStrs w base v l) : ∃ A c, v = .slice A l.length c := by
  rcases h with ⟨h1, ⟨rfl, h2⟩ | ⟨g, cap, cur, rfl, hbg, hg, h3⟩⟩
  · exact ⟨none, 0, by rw [h2]⟩
  · exact ⟨some ⟨g, 0, none⟩, cap, rfl⟩
theorem wpList_append_strs {ops : Array Oper} {rest : List Oper} {o : Oper} {a : Act} {w : World} {Q : Exit → Act → World → Prop} (hgd : o.guard = none) (sl x : Operand)
    (ho : o.op = .call { callee := .builtin .append, args := #[sl, x], argTypes := #[34, 34] })
    (base : Nat) (v : Value) (l : List (List UInt8)) (hs : a.eval sl = v) (hown : OwnStrs w base v l) (ad : Addr) (n c : Nat) (t : List (List UInt8)) (hn : n = t.length) (hn0 : 0 < n) (hx : a.eval x = .slice (some ad) n c)
    (hg : ∀ (j : Nat) (u : Value), (stV t)[j]? = some u → w.cell? (ad.add j) = some u) (hb : l.length + t.length ≤ 1000000) (hbase : base ≤ w.heap.size)
    (h : ∀ g cap w', OwnStrs w' base (.slice (some ⟨g, 0, none⟩) (l.length + n) cap) (l ++ t) → w.grownBy w' v.ownBlock → (v.ownBlock = some g ∨ g = w.heap.size) → wpList Tryd.prog ops Q rest (a.put o.dst (.slice (some ⟨g, 0, none⟩) (l.length + n) cap)) w') : wpList Tryd.prog ops Q (o :: rest) a w := by
  obtain ⟨i0, hi, hz0, hz1, hz2⟩ := info_parts info_str
  refine wpList_append_lies _ hgd sl x 34 ho base 9 i0 (.string ⟨#[]⟩) 1 16 Tryd.underlying34 hi hz0 hz1 hz2 rfl (by decide) v l.length (stV l) hs hown ad n c (stV t) hx (by rw [stV_len, hn, Nat.mul_one]) hg stV_one hn0 (by unfold maxLen; omega) (by omega) hbase w.heap.size rfl fun g' cap w' hown' hgr hat _ => h g' cap w' ?_ hgr hat
  unfold OwnStrs
  rw [List.length_append, stV_app, ← hn]
  exact hown'
structure OwnRows (w : World) (base : Nat) (v : Value) (vs : List Value) (xs : List (List (List UInt8))) : Prop where
  own : w.ownsRow base 34 1 v vs.length vs
  len : vs.length = xs.length
  rows : ∀ (k : Nat) (hk : k < vs.length) (hx : k < xs.length), StrsIn w w.heap.size vs[k] xs[k]
theorem OwnRows.nil (w : World) (base : Nat) : OwnRows w base (.slice none 0 0) [] [] := ⟨⟨rfl, .inl ⟨rfl, rfl⟩⟩, rfl, fun k hk => by simp at hk⟩
theorem OwnRows.form {w : World} {base : Nat} {v : Value} {vs : List Value} {xs : List (List (List UInt8))} (h : OwnRows w base v vs xs) : ∃ A c, v = .slice A xs.length c := by
  rcases h.own with ⟨h1, ⟨rfl, h2⟩ | ⟨g, cap, cur, rfl, hbg, hg, h3⟩⟩
  · exact ⟨none, 0, by rw [← h.len, h2]⟩
  · exact ⟨some ⟨g, 0, none⟩, cap, by rw [← h.len]⟩
theorem OwnRows.keep {w w' : World} {base : Nat} {v : Value} {vs : List Value} {xs : List (List (List UInt8))} (h : OwnRows w base v vs xs) (hb : Below w.heap.size w w') : OwnRows w' base v vs xs := by
  refine ⟨?_, h.len, fun k hk hx => (h.rows k hk hx).below hb (Nat.le_refl _) hb.size⟩
  rcases h.own with ⟨h1, h2 | ⟨g, cap, cur, hv, hbg, hg, h3⟩⟩
  · exact ⟨h1, .inl h2⟩
  · exact ⟨h1, .inr ⟨g, cap, cur, hv, hbg, (hb.block g (lt_of_heap hg)).trans hg, h3⟩⟩
theorem OwnRows.alloc {w : World} {base : Nat} {v : Value} {vs : List Value} {xs : List (List (List UInt8))} (h : OwnRows w base v vs xs) (o : Obj) : OwnRows (w.alloc o) base v vs xs := h.keep ((Below.refl _ _).alloc (Nat.le_refl _) o)
theorem OwnRows.get {w : World} {base : Nat} {v : Value} {vs : List Value} {xs : List (List (List UInt8))} (h : OwnRows w base v vs xs) (k : Nat) (hx : k < xs.length) :
    ∃ g c u, v = .slice (some ⟨g, 0, none⟩) xs.length c ∧ g < w.heap.size ∧ w.cell? ⟨g, k, none⟩ = some u ∧ StrsIn w w.heap.size u xs[k] := by
  have hk : k < vs.length := by rw [h.len]; exact hx
  have hh := h.own
  rcases hh with ⟨h1, ⟨rfl, h2⟩ | ⟨g, cap, cur, rfl, hbg, hg, h3⟩⟩
  · omega
  · refine ⟨g, cap, vs[k], by rw [← h.len], lt_of_heap hg, ?_, h.rows k hk hx⟩
    have := World.ownsRow.cells (g := g) h.own rfl k vs[k] (List.getElem?_eq_getElem hk)
    rwa [add_pl, Nat.zero_add] at this
theorem wpList_append_row {ops : Array Oper} {rest : List Oper} {o : Oper} {a : Act} {w : World} {Q : Exit → Act → World → Prop} (hgd : o.guard = none) (sl x : Operand)
    (ho : o.op = .call { callee := .builtin .append, args := #[sl, x], argTypes := #[73, 73] })
    (base : Nat) (v : Value) (vs : List Value) (xs : List (List (List UInt8))) (hs : a.eval sl = v) (hown : OwnRows w base v vs xs) (g c : Nat) (u : Value) (t : List (List UInt8)) (hx : a.eval x = .slice (some ⟨g, 0, none⟩) 1 c) (hg : w.cell? ⟨g, 0, none⟩ = some u)
    (ht : StrsIn w w.heap.size u t) (hb : xs.length ≤ 100000) (hbase : base ≤ w.heap.size)
    (h : ∀ v' w', OwnRows w' base v' (vs ++ [u]) (xs ++ [t]) → Below base w w' → wpList Tryd.prog ops Q rest (a.put o.dst v') w') : wpList Tryd.prog ops Q (o :: rest) a w := by
  obtain ⟨i0, hi, hz0, hz1, hz2⟩ := info_parts info_strs
  have hu1 : u.oneCell' = true := by obtain ⟨_, _, _, rfl, _⟩ := ht; rfl
  refine wpList_append_lies _ hgd sl x 73 ho base 34 i0 (.slice none 0 0) 1 24 Tryd.underlying73 hi hz0 hz1 hz2 rfl (by decide) v vs.length vs hs hown.own ⟨g, 0, none⟩ 1 c [u] hx rfl (fun j u' hu => ?_) (by simpa using hu1) (by omega) (by rw [hown.len]; unfold maxLen; omega) (by rw [hown.len]; omega) hbase w.heap.size rfl fun g' cap w' hown' hgr hat _ => h _ w' ?_ ?_
  · match j, hu with
    | 0, hu =>
      have e : u = u' := by simpa using hu
      rw [add_pl, ← e]; exact hg
    | j + 1, hu => simp at hu
  · have hkeep : ∀ (u : Value) (t : List (List UInt8)), StrsIn w w.heap.size u t → StrsIn w' w'.heap.size u t := by
      intro u t hst
      refine hst.keep (fun k hk => ?_) hgr.size
      obtain ⟨g1, c1, cur1, rfl, hlt, hh, _⟩ := hst
      have e : g1 = k := by simpa [Value.ownBlock] using hk
      subst e
      refine hgr.block _ hlt (fun e => ?_)
      rcases hown.own with ⟨_, ⟨rfl, _⟩ | ⟨g2, cap2, cur2, rfl, _, hg2, _⟩⟩
      · cases e
      · have e2 : g1 = g2 := by simpa [Value.ownBlock] using e
        rw [← e2, hh] at hg2
        simp at hg2
    refine ⟨?_, by simp [hown.len], fun k hk hx => ?_⟩
    · rw [List.length_append]; exact hown'
    · by_cases hlt : k < vs.length
      · have hlx : k < xs.length := by rw [← hown.len]; exact hlt
        rw [List.getElem_append_left hlt, List.getElem_append_left hlx]
        exact hkeep _ _ (hown.rows k hlt hlx)
      · have e : k = vs.length := by simp at hk; omega
        subst e
        have e2 : (xs ++ [t])[vs.length] = t := by simp [hown.len]
        rw [e2, List.getElem_append_right (Nat.le_refl _)]
        simpa using hkeep _ _ ht
  · refine ⟨hgr.os, hgr.tape, hgr.output, hgr.size, fun k hk => hgr.block k (by omega) (fun e => ?_)⟩
    rcases hown.own with ⟨_, ⟨rfl, _⟩ | ⟨g2, cap2, cur2, rfl, hbg, hg2, _⟩⟩
    · cases e
    · have e2 : k = g2 := by simpa [Value.ownBlock] using e
      omega
theorem penAs_get : ∀ (es : List Ex) (b : Bool) (d c : Int) (xs : List (List (List UInt8))), penAs es b d c = some xs → ∀ (j : Nat) (hj : j < es.length) (hx : j < xs.length), ∃ d' c', penE es[j] d' c' = some xs[j]
  | [], b, d, c, xs, h, j, hj, hx => by simp at hj
  | e :: es, b, d, c, xs, h, j, hj, hx => by
    rw [penAs] at h
    split at h
    · cases h
    · rename_i x h1
      split at h
      · cases h
      · rename_i ys h2
        cases h
        cases j with
        | zero =>
          show ∃ d' c', penE e d' c' = some x
          split at h1
          · exact ⟨_, _, h1⟩
          · exact ⟨_, _, h1⟩
        | succ j => exact penAs_get es false d c ys h2 j (by simpa using hj) (by simpa using hx)
theorem penE_parts {k p n : Int} {s : List UInt8} {es : List Ex} {d c : Int} {T : List (List UInt8)} (h : penE (.mk k p n s es) d c = some T) :
    1 ≤ k ∧ k ≤ 13 ∧ headB k n s c = true ∧ es.length = argsN k ∧ ∃ xs, penAs es (behindB k) d c = some xs ∧ xs.length = es.length ∧ T = shapeE k n s xs := by
  rw [penE] at h
  split at h
  · rename_i hh
    obtain ⟨h1, h2, h3⟩ := hh
    obtain ⟨k1, k2⟩ := head_kind h2
    cases hp : penAs es (behindB k) d c with
    | none => rw [hp] at h; cases h
    | some xs =>
      rw [hp] at h
      cases h
      exact ⟨k1, k2, h2, h3, xs, rfl, penAs_len _ _ _ _ _ hp, rfl⟩
  · cases h
theorem penE_ne {e : Ex} {d c : Int} {T : List (List UInt8)} (h : penE e d c = some T) : T ≠ [] := by
  cases e with
  | mk k p n s es =>
  obtain ⟨k1, k2, h2, h3, xs, hp, hl, rfl⟩ := penE_parts h
  have := shape_len (n := n) (s := s) k1 k2 (hl.trans h3)
  intro h0
  rw [h0] at this
  have ho : 1 ≤ ownN k := by unfold ownN; split <;> (try split) <;> omega
  simp at this
  omega
end Go.Proofs.YtihjdfbdpcghdaaDoor
end
