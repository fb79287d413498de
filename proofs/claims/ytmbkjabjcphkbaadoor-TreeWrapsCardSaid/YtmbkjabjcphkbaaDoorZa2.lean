/- Uj; Uk; Um; Va; Vd -/
import Derived.Test.YtmbkjabjcphkbaaDoorZa1
import Derived.Test.YtmbkjabjcphkbaaDoorZa0
import Derived.Lib.ItoaNum
import Derived.Lib.AppendStr
import Derived.Lib.BufferRead
import Derived.Deep.AppendLies
section
/- Statements in the call's own memory; append of one. -/
set_option linter.unusedVariables false
namespace Go.Proofs.YtmbkjabjcphkbaaDoor
open Go.RowKit

structure Vs where
  e : Value
  b : Value
  l : Value
def smCells (s : Sm) (f : Vs) : List Value := [.int .i64 s.kind, .int .i64 s.pl, .string (strOf s.name), .string (strOf s.type), f.e, f.b, f.l]
def smsV : List Sm → List Vs → List Value
  | s :: ss, f :: fs => smCells s f ++ smsV ss fs
  | _, _ => []
theorem smsV_app : ∀ {ss : List Sm} {fs : List Vs} (s : Sm) (u : Vs), ss.length = fs.length → smsV (ss ++ [s]) (fs ++ [u]) = smsV ss fs ++ smCells s u
  | [], [], s, u, _ => by simp [smsV]
  | d :: ss, f :: fs, s, u, h => by
    show smCells d f ++ smsV (ss ++ [s]) (fs ++ [u]) = _
    rw [smsV_app s u (by simpa using h)]
    simp [smsV]
theorem smsV_get : ∀ {ss : List Sm} {fs : List Vs} (h : ss.length = fs.length) (k : Nat) (hk : k < ss.length) (i : Nat) (hi : i < 7), (smsV ss fs)[k * 7 + i]? = (smCells ss[k] (fs[k]'(by omega)))[i]?
  | s :: ss, f :: fs, h, 0, hk, i, hi => by
    show (smCells s f ++ smsV ss fs)[0 * 7 + i]? = _
    rw [Nat.zero_mul, Nat.zero_add, List.getElem?_append_left (by simpa [smCells] using hi)]
    rfl
  | s :: ss, f :: fs, h, k + 1, hk, i, hi => by
    show (smCells s f ++ smsV ss fs)[(k + 1) * 7 + i]? = _
    rw [show (k + 1) * 7 + i = 7 + (k * 7 + i) from by omega, List.getElem?_append_right (by simp [smCells])]
    rw [show 7 + (k * 7 + i) - (smCells s f).length = k * 7 + i from by simp [smCells]]
    exact smsV_get (by simpa using h) k (by simpa using hk) i hi
theorem smCells_one (s : Sm) (u : Vs) (h1 : u.e.oneCell' = true) (h2 : u.b.oneCell' = true) (h3 : u.l.oneCell' = true) : ∀ x ∈ smCells s u, x.oneCell' = true := by
  intro x hx
  simp [smCells] at hx
  rcases hx with rfl | rfl | rfl | rfl | rfl | rfl | rfl
  · rfl
  · rfl
  · rfl
  · rfl
  · exact h1
  · exact h2
  · exact h3
theorem IsSms.one {w : World} {S : Nat → Prop} {ss : List Sm} {v : Value} (h : IsSms w S ss v) : v.oneCell' = true := by
  cases h; rfl

/-- the three lists of a statement -/
def SmIn (w : World) (S : Nat → Prop) (s : Sm) (f : Vs) : Prop := s.name.length ≤ 140737488355328 ∧ s.type.length ≤ 140737488355328 ∧ IsExs w S s.exprs f.e ∧ IsSms w S s.body f.b ∧ IsSms w S s.els f.l
theorem SmIn.keep {w w' : World} {S S' : Nat → Prop} {s : Sm} {f : Vs} (h : SmIn w S s f) (hw : ∀ b, S b → w'.heap[b]? = w.heap[b]?) (hS : ∀ b, S b → S' b) : SmIn w' S' s f :=
  ⟨h.1, h.2.1, h.2.2.1.keep hw hS, h.2.2.2.1.keep hw hS, h.2.2.2.2.keep hw hS⟩
/-- the slice v of the statements ss lies in the call's own memory from base on -/
def OwnSm (w : World) (base : Nat) (v : Value) (ss : List Sm) : Prop :=
  ∃ fs : List Vs, ss.length = fs.length ∧ w.ownsRow base 55 7 v ss.length (smsV ss fs) ∧
    ∀ (k : Nat) (hk : k < ss.length) (hk' : k < fs.length), SmIn w (fun b => base ≤ b ∧ b < w.heap.size ∧ v.ownBlock ≠ some b) ss[k] fs[k]
theorem OwnSm.lt {w : World} {base : Nat} {v : Value} {ss : List Sm} (h : OwnSm w base v ss) {b : Nat} (hb : v.ownBlock = some b) : base ≤ b ∧ b < w.heap.size := by
  obtain ⟨fs, _, hown, _⟩ := h
  exact hown.lt b hb
theorem OwnSm.sms {w : World} {base : Nat} {v : Value} {ss : List Sm} (h : OwnSm w base v ss) : IsSms w (fun b => base ≤ b ∧ b < w.heap.size) ss v := by
  obtain ⟨fs, hl, hown, hin⟩ := h
  have hlt := hown.lt
  have hcell : ∀ (g : Nat), v.ownBlock = some g → ∀ (j : Nat) (u : Value), (smsV ss fs)[j]? = some u → w.cell? ⟨g, 0 + j, none⟩ = some u := fun g hg j u hu => by
    have := hown.cells hg j u hu
    rw [add_pl] at this
    exact this
  rcases hown.2 with ⟨rfl, h2⟩ | ⟨g, cap, cur, rfl, hbg, hg, hc1, hc2, _⟩
  · have he : ss = [] := List.eq_nil_of_length_eq_zero h2
    subst he
    exact .mk [] none 0 (fun _ => undef) (fun _ => undef) (fun _ => undef) (Nat.le_refl _) (by omega) (fun k hk => absurd hk (by simp)) (fun k hk => absurd hk (by simp)) (fun k hk => absurd hk (by simp)) (fun k hk => absurd hk (by simp))
  · have hgd : ∀ (k : Nat) (hk' : k < fs.length), (fs[k]?.getD ⟨undef, undef, undef⟩) = fs[k] := fun k hk' => by rw [List.getElem?_eq_getElem hk']; rfl
    refine .mk ss _ cap (fun k => (fs[k]?.getD ⟨undef, undef, undef⟩).e) (fun k => (fs[k]?.getD ⟨undef, undef, undef⟩).b) (fun k => (fs[k]?.getD ⟨undef, undef, undef⟩).l) hc1 (by unfold maxLen at hc2; omega) (fun k hk => ?_) (fun k hk => ?_) (fun k hk => ?_) (fun k hk => ?_)
    · have hk' : k < fs.length := by omega
      obtain ⟨a1, a2, _⟩ := hin k hk hk'
      refine ⟨g, 0, rfl, ⟨hbg, (hlt g rfl).2⟩, a1, a2, ?_, ?_, ?_, ?_, ?_, ?_, ?_⟩
      · exact hcell g rfl (k * 7) _ (by have := smsV_get hl k hk 0 (by omega); rw [Nat.add_zero] at this; rw [this]; rfl)
      · exact hcell g rfl (k * 7 + 1) _ (by rw [smsV_get hl k hk 1 (by omega)]; rfl)
      · exact hcell g rfl (k * 7 + 2) _ (by rw [smsV_get hl k hk 2 (by omega)]; rfl)
      · exact hcell g rfl (k * 7 + 3) _ (by rw [smsV_get hl k hk 3 (by omega)]; rfl)
      · rw [hgd k hk']; exact hcell g rfl (k * 7 + 4) _ (by rw [smsV_get hl k hk 4 (by omega)]; rfl)
      · rw [hgd k hk']; exact hcell g rfl (k * 7 + 5) _ (by rw [smsV_get hl k hk 5 (by omega)]; rfl)
      · rw [hgd k hk']; exact hcell g rfl (k * 7 + 6) _ (by rw [smsV_get hl k hk 6 (by omega)]; rfl)
    · have hk' : k < fs.length := by omega
      show IsExs w _ ss[k].exprs (fs[k]?.getD ⟨undef, undef, undef⟩).e
      rw [hgd k hk']
      exact (hin k hk hk').2.2.1.keep (fun _ _ => rfl) (fun b hb => ⟨hb.1, hb.2.1⟩)
    · have hk' : k < fs.length := by omega
      show IsSms w _ ss[k].body (fs[k]?.getD ⟨undef, undef, undef⟩).b
      rw [hgd k hk']
      exact (hin k hk hk').2.2.2.1.keep (fun _ _ => rfl) (fun b hb => ⟨hb.1, hb.2.1⟩)
    · have hk' : k < fs.length := by omega
      show IsSms w _ ss[k].els (fs[k]?.getD ⟨undef, undef, undef⟩).l
      rw [hgd k hk']
      exact (hin k hk hk').2.2.2.2.keep (fun _ _ => rfl) (fun b hb => ⟨hb.1, hb.2.1⟩)
theorem OwnSm.below {w w' : World} {base : Nat} {v : Value} {ss : List Sm} (h : OwnSm w base v ss) (hb : Below w.heap.size w w') : OwnSm w' base v ss := by
  obtain ⟨fs, hl, hown, hin⟩ := h
  refine ⟨fs, hl, ?_, fun k hk hk' => (hin k hk hk').keep (fun b hb2 => hb.block b hb2.2.1) (fun b hb2 => ⟨hb2.1, Nat.lt_of_lt_of_le hb2.2.1 hb.size, hb2.2.2⟩)⟩
  rcases hown with ⟨h1, h2 | ⟨g, cap, cur, hv, hbg, hg, h3⟩⟩
  · exact ⟨h1, .inl h2⟩
  · refine ⟨h1, .inr ⟨g, cap, cur, hv, hbg, ?_, h3⟩⟩
    have hlt : g < w.heap.size := by
      rcases Nat.lt_or_ge g w.heap.size with hlt | hge
      · exact hlt
      · rw [Array.getElem?_eq_none hge] at hg; cases hg
    exact (hb.block g hlt).trans hg
theorem OwnSm.nil (w : World) : OwnSm (w.alloc (.cells #[] 55)) w.heap.size (.slice (some ⟨w.heap.size, 0, none⟩) 0 0) [] :=
  ⟨[], rfl, World.ownsRow_lit (e := 55) (size := 7) w #[] 0 (Nat.le_refl _) (by unfold maxLen; omega) rfl, fun k hk => absurd hk (by simp)⟩
/-- a store into a block that none of it uses -/
theorem OwnSm.set_ {w : World} {base : Nat} {v : Value} {ss : List Sm} (h : OwnSm w base v ss) {p : Addr} (hp : p.block < base) (u : Value) : OwnSm (w.setCell p u) base v ss := by
  have hbl := h
  obtain ⟨fs, hl, hown, hin⟩ := h
  refine ⟨fs, hl, ?_, fun k hk hk' => (hin k hk hk').keep (fun b hb2 => Below.heap_setCell _ _ _ b (by omega)) (fun b hb2 => ⟨hb2.1, by simpa using hb2.2.1, hb2.2.2⟩)⟩
  rcases hown with ⟨h1, h2 | ⟨g, cap, cur, hv, hbg, hg, h3⟩⟩
  · exact ⟨h1, .inl h2⟩
  · exact ⟨h1, .inr ⟨g, cap, cur, hv, hbg, (Below.heap_setCell _ _ _ g (by omega)).trans hg, h3⟩⟩
theorem OwnSm.setNew {w : World} {base : Nat} {v : Value} {ss : List Sm} {B : Nat} (h : OwnSm w base v ss) (hB : w.heap.size ≤ B) {w' : World} (hs : w.heap.size ≤ w'.heap.size) (hk : ∀ b, b < w.heap.size → w'.heap[b]? = w.heap[b]?) : OwnSm w' base v ss := by
  obtain ⟨fs, hl, hown, hin⟩ := h
  refine ⟨fs, hl, ?_, fun k hk1 hk' => (hin k hk1 hk').keep (fun b hb2 => hk b hb2.2.1) (fun b hb2 => ⟨hb2.1, by omega, hb2.2.2⟩)⟩
  rcases hown with ⟨h1, h2 | ⟨g, cap, cur, hv, hbg, hg, h3⟩⟩
  · exact ⟨h1, .inl h2⟩
  · refine ⟨h1, .inr ⟨g, cap, cur, hv, hbg, ?_, h3⟩⟩
    have hlt : g < w.heap.size := by
      rcases Nat.lt_or_ge g w.heap.size with hlt | hge
      · exact hlt
      · rw [Array.getElem?_eq_none hge] at hg; cases hg
    exact (hk g hlt).trans hg

theorem info_sm : (Tryd.prog.info? 55).map (fun i => (i.zero, i.size, i.bytes)) = some (some (.agg #[.int .i64 0, .int .i64 0, .string ⟨#[]⟩, .string ⟨#[]⟩, .slice none 0 0, .slice none 0 0, .slice none 0 0]), 7, 120) := by kernel_rfl

/-- append of one statement whose lists lie apart -/
theorem wpList_append_sm {ops : Array Oper} {rest : List Oper} {o : Oper} {a : Act} {w : World} {Q : Exit → Act → World → Prop} (hgd : o.guard = none) (s x : Operand)
    (ho : o.op = .call { callee := .builtin .append, args := #[s, x], argTypes := #[51, 51] })
    (base : Nat) (v : Value) (ss : List Sm) (hs : a.eval s = v) (hown : OwnSm w base v ss) (ad : Addr) (c : Nat) (e : Sm) (u : Vs) (hx : a.eval x = .slice (some ad) 1 c)
    (hnews : ∀ j y, (smCells e u)[j]? = some y → w.cell? (ad.add j) = some y) (hu : SmIn w (fun b => base ≤ b ∧ b < w.heap.size ∧ v.ownBlock ≠ some b) e u) (hb : ss.length ≤ 1000000) (hbase : base ≤ w.heap.size)
    (h : ∀ v' w', OwnSm w' base v' (ss ++ [e]) → w.grownBy w' v.ownBlock → wpList Tryd.prog ops Q rest (a.put o.dst v') w') : wpList Tryd.prog ops Q (o :: rest) a w := by
  obtain ⟨i0, hi, hz0, hz1, hz2⟩ := info_parts info_sm
  obtain ⟨fs, hl, hrow, hin⟩ := hown
  refine wpList_append_lies _ hgd s x 51 ho base 55 i0 _ 7 120 Tryd.underlying51 hi hz0 hz1 hz2 rfl (by decide) v ss.length (smsV ss fs) hs hrow ad 1 c (smCells e u) hx rfl hnews (smCells_one e u hu.2.2.1.one hu.2.2.2.1.one hu.2.2.2.2.one)
    (by omega) (by unfold maxLen; omega) (by omega) hbase w.heap.size rfl fun g cap w' hown' hgr hat hlt => h _ w' ?_ hgr
  have hkeep : ∀ b, (base ≤ b ∧ b < w.heap.size ∧ v.ownBlock ≠ some b) → w'.heap[b]? = w.heap[b]? := fun b hb => hgr.block b hb.2.1 (fun e => hb.2.2 e.symm)
  have hS : ∀ b, (base ≤ b ∧ b < w.heap.size ∧ v.ownBlock ≠ some b) → (base ≤ b ∧ b < w'.heap.size ∧ (Value.slice (some ⟨g, 0, none⟩) (ss.length + 1) cap).ownBlock ≠ some b) := fun b hb => by
    have hsz := hgr.size
    refine ⟨hb.1, by omega, fun e => ?_⟩
    have e' : g = b := by simpa [Value.ownBlock] using e
    rcases hat with hat | hat
    · exact hb.2.2 (by rw [hat, e'])
    · omega
  refine ⟨fs ++ [u], by simp [hl], ?_, fun k hk hk' => ?_⟩
  · rw [List.length_append, smsV_app e u hl]
    exact hown'
  · by_cases hke : k < ss.length
    · have hkf : k < fs.length := by omega
      rw [List.getElem_append_left hke, List.getElem_append_left hkf]
      exact (hin k hke hkf).keep hkeep hS
    · have hk0 : k = ss.length := by simp at hk; omega
      subst hk0
      have e1 : (ss ++ [e])[ss.length] = e := by simp
      have e2 : (fs ++ [u])[ss.length]'hk' = u := by
        rw [List.getElem_append_right (by omega)]
        simp [hl]
      rw [e1, e2]
      exact hu.keep hkeep hS

mutual
def smallS (N : Nat) : Sm → Prop
  | .mk _ _ n t ex bd el => n.length ≤ N ∧ t.length ≤ N ∧ ex.length ≤ N ∧ smallEs N ex ∧ bd.length ≤ N ∧ smallSs N bd ∧ el.length ≤ N ∧ smallSs N el
def smallSs (N : Nat) : List Sm → Prop
  | [] => True
  | s :: ss => smallS N s ∧ smallSs N ss
end
theorem smallSs_get {N : Nat} : ∀ {ss : List Sm}, smallSs N ss → ∀ (k : Nat) (hk : k < ss.length), smallS N ss[k]
  | [], _, k, hk => absurd hk (by simp)
  | e :: es, h, 0, _ => by rw [smallSs] at h; exact h.1
  | e :: es, h, k + 1, hk => by rw [smallSs] at h; exact smallSs_get h.2 k (by simpa using hk)
theorem smallS_parts {N : Nat} {s : Sm} (h : smallS N s) : s.name.length ≤ N ∧ s.type.length ≤ N ∧ s.exprs.length ≤ N ∧ smallEs N s.exprs ∧ s.body.length ≤ N ∧ smallSs N s.body ∧ s.els.length ≤ N ∧ smallSs N s.els := by
  cases s
  rw [smallS] at h
  exact h
mutual
/-- a statement down to so many levels -/
def copyS : Sm → Int → Sm
  | .mk k p n t ex bd el, deep => .mk k p n t (ex.map (copyE · deep)) (copyB bd (deep - 1)) (copyB el (deep - 1))
def copyB : List Sm → Int → List Sm
  | [], _ => []
  | s :: ss, deep => if 0 < deep then copyS s deep :: copyB ss deep else []
end
theorem copyB_take (ss : List Sm) (deep : Int) (h : 0 < deep) : ∀ (j : Nat) (hj : j < ss.length), copyB (ss.take (j + 1)) deep = copyB (ss.take j) deep ++ [copyS ss[j] deep] := by
  induction ss with
  | nil => intro j hj; exact absurd hj (by simp)
  | cons s ss ih =>
    intro j hj
    cases j with
    | zero => simp [copyB, h]
    | succ j =>
      have := ih j (by simpa using hj)
      rw [List.take_succ_cons, List.take_succ_cons, copyB, copyB, if_pos h, if_pos h, this]
      rfl
theorem copyB_none (ss : List Sm) (deep : Int) (h : ¬ 0 < deep) : copyB ss deep = [] := by
  cases ss with
  | nil => rw [copyB]
  | cons e es => rw [copyB, if_neg h]
theorem copyS_parts (s : Sm) (deep : Int) : (copyS s deep).kind = s.kind ∧ (copyS s deep).pl = s.pl ∧ (copyS s deep).name = s.name ∧ (copyS s deep).type = s.type ∧ (copyS s deep).exprs = s.exprs.map (copyE · deep) ∧ (copyS s deep).body = copyB s.body (deep - 1) ∧ (copyS s deep).els = copyB s.els (deep - 1) := by
  cases s
  rw [copyS]
  exact ⟨rfl, rfl, rfl, rfl, rfl, rfl, rfl⟩
theorem copyB_len (ss : List Sm) (deep : Int) : (copyB ss deep).length ≤ ss.length := by
  induction ss with
  | nil => rw [copyB]; exact Nat.le_refl _
  | cons e es ih =>
    rw [copyB]
    split
    · simp; omega
    · simp

end Go.Proofs.YtmbkjabjcphkbaaDoor
end
section
/- The walk of CopyBlock. -/
set_option linter.unusedVariables false
namespace Go.Proofs.YtmbkjabjcphkbaaDoor
open Go.RowKit

/-- block g is a statement -/
def SmBlk (w : World) (g : Nat) (k p : Int) (n t : ByteArray) (a b c : Value) : Prop := w.heap[g]? = some (.cells #[.int .i64 k, .int .i64 p, .string n, .string t, a, b, c] 55 (0, 0))
section
variable {w w' : World} {g B : Nat} {k p : Int} {n t : ByteArray} {a b c : Value}
theorem SmBlk.new (w : World) (k p : Int) (n t : ByteArray) (a b c : Value) : SmBlk (w.alloc (.cells #[.int .i64 k, .int .i64 p, .string n, .string t, a, b, c] 55)) w.heap.size k p n t a b c := heap_alloc_new w _
theorem SmBlk.below (h : SmBlk w g k p n t a b c) (hb : Below B w w') (hg : g < B) : SmBlk w' g k p n t a b c := (hb.block g hg).trans h
theorem SmBlk.c0 (h : SmBlk w g k p n t a b c) : w.cell? ⟨g, 0, none⟩ = some (.int .i64 k) := by rw [cell_of_row w g 0 _ _ (0, 0) h]; rfl
theorem SmBlk.c1 (h : SmBlk w g k p n t a b c) : w.cell? ⟨g, 1, none⟩ = some (.int .i64 p) := by rw [cell_of_row w g 1 _ _ (0, 0) h]; rfl
theorem SmBlk.c2 (h : SmBlk w g k p n t a b c) : w.cell? ⟨g, 2, none⟩ = some (.string n) := by rw [cell_of_row w g 2 _ _ (0, 0) h]; rfl
theorem SmBlk.c3 (h : SmBlk w g k p n t a b c) : w.cell? ⟨g, 3, none⟩ = some (.string t) := by rw [cell_of_row w g 3 _ _ (0, 0) h]; rfl
theorem SmBlk.c4 (h : SmBlk w g k p n t a b c) : w.cell? ⟨g, 4, none⟩ = some a := by rw [cell_of_row w g 4 _ _ (0, 0) h]; rfl
theorem SmBlk.c5 (h : SmBlk w g k p n t a b c) : w.cell? ⟨g, 5, none⟩ = some b := by rw [cell_of_row w g 5 _ _ (0, 0) h]; rfl
theorem SmBlk.c6 (h : SmBlk w g k p n t a b c) : w.cell? ⟨g, 6, none⟩ = some c := by rw [cell_of_row w g 6 _ _ (0, 0) h]; rfl
theorem SmBlk.fr (h : SmBlk w g k p n t a b c) (j : Nat) : w.frozen? ⟨g, j, none⟩ = false := frozen_of_row w g j _ _ h
theorem SmBlk.set4 (h : SmBlk w g k p n t a b c) (u : Value) : SmBlk (w.setCell ⟨g, 4, none⟩ u) g k p n t u b c := by
  unfold SmBlk at h ⊢
  simp [World.setCell, Array.getElem?_modify, h]
theorem SmBlk.set5 (h : SmBlk w g k p n t a b c) (u : Value) : SmBlk (w.setCell ⟨g, 5, none⟩ u) g k p n t a u c := by
  unfold SmBlk at h ⊢
  simp [World.setCell, Array.getElem?_modify, h]
theorem SmBlk.set6 (h : SmBlk w g k p n t a b c) (u : Value) : SmBlk (w.setCell ⟨g, 6, none⟩ u) g k p n t a b u := by
  unfold SmBlk at h ⊢
  simp [World.setCell, Array.getElem?_modify, h]
end
def SmsPost (w : World) (ss : List Sm) (e : Ending) (w' : World) : Prop :=
  ∃ v, e = .returned v ∧ IsSms w' (fun b => w.heap.size ≤ b ∧ b < w'.heap.size) ss v ∧ Below w.heap.size w w'
def CopiesB (w0 : World) (B : Nat) (ss : List Sm) (v : Value) : Prop :=
  smallSs 1000000 ss → ss.length ≤ 1000000 → ∀ (deep : Int) (w : World), Below B w0 w → B ≤ w.heap.size → -100000 ≤ deep → deep ≤ 100000 →
    Calls Tryd.prog 37 #[v, .int .i64 deep] w (SmsPost w (copyB ss deep))

set_option maxHeartbeats 4000000 in
set_option maxRecDepth 100000 in
theorem copyb_any {w0 : World} {B : Nat} {ss : List Sm} {v : Value} (h : IsSms w0 (· < B) ss v) : CopiesB w0 B ss v := by
  induction h with
  | mk ss A c fe fb fl hc hM hA he hbd hel ihb ihl =>
    intro hsm hns6 deep w hb hB hd0 hd
    obtain ⟨ns, hns⟩ : ∃ ns, ns = ss.length := ⟨_, rfl⟩
    rw [← hns] at hc hns6 ⊢
    have HNS := Lib.hid hns
    have HB0 := Lib.hid hb
    have HE := Lib.hid he
    have HBD := Lib.hid hbd
    have HEL := Lib.hid hel
    have HIB := Lib.hid ihb
    have HIL := Lib.hid ihl
    have HHA := Lib.hid hA
    have HSM := Lib.hid hsm
    clear hns hb he hbd hel ihb ihl hA hsm
    go_enter Tryd.func37, Tryd.ntmps37
    go_wp2
    obtain ⟨X, hX⟩ : ∃ X : World, X = w.alloc (.cells #[] 55) := ⟨_, rfl⟩
    obtain ⟨g, hg⟩ : ∃ g, g = w.heap.size := ⟨_, rfl⟩
    have hxo : OwnSm X g (.slice (some ⟨g, 0, none⟩) 0 0) (copyB (ss.take 0) deep) := by
      rw [hX, hg, List.take_zero, copyB]; exact OwnSm.nil w
    have hxs : X.heap.size = g + 1 := by rw [hX, hg]; simp
    have hxb : Below g w X := by rw [hX, hg]; exact (Below.refl _ w).alloc (Nat.le_refl _) _
    rw [← hX, ← hg]
    have HXO := Lib.hid hxo
    have HXS := Lib.hid hxs
    have HXB := Lib.hid hxb
    have HG := Lib.hid hg
    clear hX hxo hxs hxb hg
    go_loopw [5, 6] (fun v i wr => ∃ j : Nat, j ≤ ns ∧ i = .int .i64 j ∧ Hid (OwnSm wr g v (copyB (ss.take j) deep)) ∧ Hid (Below g X wr) ∧ g < wr.heap.size) (fun _ i _ => ns - (intOf i).toNat)
    case atStart => exact ⟨0, Nat.zero_le _, rfl, HXO, Lib.hid (Below.refl _ _), by have := HXS.out; omega⟩
    case round =>
      obtain ⟨wo, rfl⟩ : ∃ wo : World, wo = wr := ⟨_, rfl⟩
      obtain ⟨j, hj, rfl, HO, HBL, hws⟩ := hrel
      by_cases hgo : j < ns ∧ 0 < deep
      · obtain ⟨hlt, hdp⟩ := hgo
        have hje : j < ss.length := by rw [← HNS.out]; exact hlt
        obtain ⟨b, off, rfl, hbB, hnm, hty, p0, p1, p2, p3, p4, p5, p6⟩ := HHA.out j hje
        have hbw : Below B w0 wo := HB0.out.trans ((HXB.out.trans HBL.out).mono (by rw [HG.out]; exact hB))
        have hsx : B ≤ wo.heap.size := by have := HG.out; omega
        obtain ⟨-, -, s3, s4, s5, s6, s7, s8⟩ := smallS_parts (smallSs_get HSM.out j hje)
        have hce := HE.out j hje
        have hcb := HIB.out j hje s6 s5
        have hcl := HIL.out j hje s8 s7
        obtain ⟨A1, d1, hf1, hk1, hK1⟩ := hce.slice
        obtain ⟨A2, d2, hf2, hk2, hK2⟩ := (HBD.out j hje).slice
        obtain ⟨A3, d3, hf3, hk3, hK3⟩ := (HEL.out j hje).slice
        have hct := copyB_take ss deep hdp j hje
        obtain ⟨e1, e2, e3, e4, e5, e6, e7⟩ := copyS_parts ss[j] deep
        rw [hf1] at p4 hce
        rw [hf2] at p5 hcb
        rw [hf3] at p6 hcl
        obtain ⟨Y, hY⟩ : ∃ Y, Y = copyS ss[j] deep := ⟨_, rfl⟩
        rw [← hY] at e1 e2 e3 e4 e5 e6 e7 hct
        obtain ⟨m1, hm1⟩ : ∃ m, m = ss[j].exprs.length := ⟨_, rfl⟩
        obtain ⟨m2, hm2⟩ : ∃ m, m = ss[j].body.length := ⟨_, rfl⟩
        obtain ⟨m3, hm3⟩ : ∃ m, m = ss[j].els.length := ⟨_, rfl⟩
        rw [← hm1] at p4 hce hk1
        rw [← hm2] at p5 hcb hk2
        rw [← hm3] at p6 hcl hk3
        rw [← e1] at p0
        rw [← e2] at p1
        rw [← e3] at p2 hnm
        rw [← e4] at p3 hty
        have r0 := (hbw.cell (p := ⟨b, off + j * 7, none⟩) hbB).trans p0
        have r1 := (hbw.cell (p := ⟨b, off + j * 7 + 1, none⟩) hbB).trans p1
        have r2 := (hbw.cell (p := ⟨b, off + j * 7 + 2, none⟩) hbB).trans p2
        have r3 := (hbw.cell (p := ⟨b, off + j * 7 + 3, none⟩) hbB).trans p3
        have r4 := (hbw.cell (p := ⟨b, off + j * 7 + 4, none⟩) hbB).trans p4
        have r5 := (hbw.cell (p := ⟨b, off + j * 7 + 5, none⟩) hbB).trans p5
        have r6 := (hbw.cell (p := ⟨b, off + j * 7 + 6, none⟩) hbB).trans p6
        obtain ⟨yk, hyk⟩ : ∃ x, x = Y.kind := ⟨_, rfl⟩
        obtain ⟨yp, hyp⟩ : ∃ x, x = Y.pl := ⟨_, rfl⟩
        obtain ⟨yn, hyn⟩ : ∃ x, x = strOf Y.name := ⟨_, rfl⟩
        obtain ⟨yt, hyt⟩ : ∃ x, x = strOf Y.type := ⟨_, rfl⟩
        rw [← hyk] at r0
        rw [← hyp] at r1
        rw [← hyn] at r2
        rw [← hyt] at r3
        have hcells : ∀ u, smCells Y u = [.int .i64 yk, .int .i64 yp, .string yn, .string yt, u.e, u.b, u.l] := fun u => by rw [hyk, hyp, hyn, hyt]; rfl
        have hlen : (copyB (ss.take j) deep).length ≤ 1000000 := by
          have h1 := copyB_len (ss.take j) deep
          rw [List.length_take] at h1
          omega
        obtain ⟨X1, hX1⟩ : ∃ X1 : World, X1 = wo.alloc (.cells #[.int .i64 yk, .int .i64 yp, .string yn, .string yt, .slice A1 m1 d1, .slice A2 m2 d2, .slice A3 m3 d3] 55) := ⟨_, rfl⟩
        have hx1 : SmBlk X1 wo.heap.size yk yp yn yt (.slice A1 m1 d1) (.slice A2 m2 d2) (.slice A3 m3 d3) := by rw [hX1]; exact SmBlk.new wo _ _ _ _ _ _ _
        have hx1s : X1.heap.size = wo.heap.size + 1 := by rw [hX1]; simp
        have hx1b : Below wo.heap.size wo X1 := by rw [hX1]; exact (Below.refl _ wo).alloc (Nat.le_refl _) _
        have hcc1 := copys_any hce s4 s3 deep X1 (hbw.trans (hx1b.mono hsx)) (by omega) (by omega) (by omega)
        have HCC := Lib.hid hcc1
        have HCT := Lib.hid hct
        have HCL := Lib.hid hcells
        have HLEN := Lib.hid hlen
        have HNM := Lib.hid hnm
        have HTY := Lib.hid hty
        have HX1 := Lib.hid hX1
        have HX1B := Lib.hid hx1b
        have HX1K := Lib.hid hx1
        have HX1S := Lib.hid hx1s
        have HCB := Lib.hid hcb
        have HCLS := Lib.hid hcl
        have HE5 := Lib.hid e5
        have HE6 := Lib.hid e6
        have HE7 := Lib.hid e7
        clear hcc1 hct hcells hlen hnm hty hX1 hx1b hx1 hx1s hcb hcl hce e1 e2 e3 e4 e5 e6 e7 hY hyk hyp hyn hyt hm1 hm2 hm3 hf1 hf2 hf3 s3 s4 s5 s6 s7 s8 p0 p1 p2 p3 p4 p5 p6 HHA HE HBD HEL HIB HIL
        go_wp2_with fail
        rw [← HX1.out]
        refine HCC.out.mono ?_
        rintro e w1 ⟨v1, rfl, hi1, hb1⟩
        obtain ⟨B1, n1, c1, -, hN1, rfl⟩ : ∃ A n c, True ∧ IsExs w1 (fun b => X1.heap.size ≤ b ∧ b < w1.heap.size) (ss[j].exprs.map (copyE · deep)) (.slice A n c) ∧ v1 = .slice A n c := by
          cases hi1 with
          | mk es A c f q1 q2 q3 q4 => exact ⟨_, _, _, trivial, .mk _ A c f q1 q2 q3 q4, rfl⟩
        have hx1s := HX1S.out
        have hk1 := HX1K.out.below hb1 (by omega)
        have y0 := hk1.c0
        have y4 := hk1.c4
        have y5 := hk1.c5
        have z4 := hk1.fr 4
        have HB1 := Lib.hid hb1
        have HN1 := Lib.hid hN1
        have HK1 := Lib.hid hk1
        clear hi1 hb1 hN1 hk1 hx1s
        go_wp2_with fail
        obtain ⟨X2, hX2⟩ : ∃ X2 : World, X2 = w1.setCell ⟨wo.heap.size, 4, none⟩ (.slice B1 n1 c1) := ⟨_, rfl⟩
        rw [← hX2]
        have hx2s : X2.heap.size = w1.heap.size := by rw [hX2]; simp
        have hx12 := HX1S.out
        have hw1s := HB1.out.size
        have hx2 : SmBlk X2 wo.heap.size yk yp yn yt (.slice B1 n1 c1) (.slice A2 m2 d2) (.slice A3 m3 d3) := by rw [hX2]; exact HK1.out.set4 _
        have hx2b : Below wo.heap.size wo X2 := by rw [hX2]; exact (HX1B.out.trans (HB1.out.mono (by omega))).setCell (Nat.le_refl _) _
        have hn2 : IsExs X2 (fun b => X1.heap.size ≤ b ∧ b < X2.heap.size) (ss[j].exprs.map (copyE · deep)) (.slice B1 n1 c1) := by
          refine HN1.out.keep (fun b hb => ?_) (fun b hb => by rw [hx2s]; exact hb)
          rw [hX2]
          exact Below.heap_setCell _ _ _ b (show b ≠ wo.heap.size by omega)
        refine (HCB.out (deep - 1) X2 (hbw.trans (hx2b.mono hsx)) (by omega) (by omega) (by omega)).mono ?_
        rintro e w2 ⟨v2, rfl, hi2, hb2⟩
        obtain ⟨B2, n2, c2, hN2, rfl⟩ : ∃ A n c, IsSms w2 (fun b => X2.heap.size ≤ b ∧ b < w2.heap.size) (copyB ss[j].body (deep - 1)) (.slice A n c) ∧ v2 = .slice A n c := by
          cases hi2 with
          | mk es A c f1 f2 f3 q1 q2 q3 q4 q5 q6 => exact ⟨_, _, _, .mk _ A c f1 f2 f3 q1 q2 q3 q4 q5 q6, rfl⟩
        have hw2s := hb2.size
        have hk2 := hx2.below hb2 (by omega)
        have hn3 : IsExs w2 (fun b => X1.heap.size ≤ b ∧ b < w2.heap.size) (ss[j].exprs.map (copyE · deep)) (.slice B1 n1 c1) := hn2.keep (fun b hb => hb2.block b hb.2) (fun b hb => ⟨hb.1, by omega⟩)
        have hw2b : Below wo.heap.size wo w2 := hx2b.trans (hb2.mono (by omega))
        clear y0 y4 y5 z4
        have y0 := hk2.c0
        have y5 := hk2.c5
        have y6 := hk2.c6
        have z5 := hk2.fr 5
        have HN2 := Lib.hid hN2
        have HN3 := Lib.hid hn3
        have HK2 := Lib.hid hk2
        have HW2B := Lib.hid hw2b
        have HW2S : Hid (X1.heap.size ≤ w2.heap.size ∧ X2.heap.size ≤ w2.heap.size ∧ X1.heap.size ≤ X2.heap.size) := Lib.hid ⟨by omega, by omega, by omega⟩
        clear hi2 hN2 hn3 hn2 hb2 hk2 hw2b hx2b hx2 hx2s hx12 hw1s hw2s hX2 HK1 HN1 HB1
        go_wp2_with fail
        obtain ⟨X3, hX3⟩ : ∃ X3 : World, X3 = w2.setCell ⟨wo.heap.size, 5, none⟩ (.slice B2 n2 c2) := ⟨_, rfl⟩
        rw [← hX3]
        have hx3s : X3.heap.size = w2.heap.size := by rw [hX3]; simp
        have hx12 := HX1S.out
        have hw2s := HW2S.out
        have hx3 : SmBlk X3 wo.heap.size yk yp yn yt (.slice B1 n1 c1) (.slice B2 n2 c2) (.slice A3 m3 d3) := by rw [hX3]; exact HK2.out.set5 _
        have hx3b : Below wo.heap.size wo X3 := by rw [hX3]; exact HW2B.out.setCell (Nat.le_refl _) _
        have hn4 : IsExs X3 (fun b => X1.heap.size ≤ b ∧ b < X3.heap.size) (ss[j].exprs.map (copyE · deep)) (.slice B1 n1 c1) := by
          refine HN3.out.keep (fun b hb => ?_) (fun b hb => by rw [hx3s]; exact hb)
          rw [hX3]
          exact Below.heap_setCell _ _ _ b (show b ≠ wo.heap.size by omega)
        have hm4 : IsSms X3 (fun b => X1.heap.size ≤ b ∧ b < X3.heap.size) (copyB ss[j].body (deep - 1)) (.slice B2 n2 c2) := by
          refine HN2.out.keep (fun b hb => ?_) (fun b hb => by rw [hx3s]; exact ⟨by omega, hb.2⟩)
          rw [hX3]
          exact Below.heap_setCell _ _ _ b (show b ≠ wo.heap.size by omega)
        refine (HCLS.out (deep - 1) X3 (hbw.trans (hx3b.mono hsx)) (by omega) (by omega) (by omega)).mono ?_
        rintro e w3 ⟨v3, rfl, hi3, hb3⟩
        obtain ⟨B3, n3, c3, hN5, rfl⟩ : ∃ A n c, IsSms w3 (fun b => X3.heap.size ≤ b ∧ b < w3.heap.size) (copyB ss[j].els (deep - 1)) (.slice A n c) ∧ v3 = .slice A n c := by
          cases hi3 with
          | mk es A c f1 f2 f3 q1 q2 q3 q4 q5 q6 => exact ⟨_, _, _, .mk _ A c f1 f2 f3 q1 q2 q3 q4 q5 q6, rfl⟩
        have hw3s := hb3.size
        have hk3' := hx3.below hb3 (by omega)
        have hn5 : IsExs w3 (fun b => X1.heap.size ≤ b ∧ b < w3.heap.size) (ss[j].exprs.map (copyE · deep)) (.slice B1 n1 c1) := hn4.keep (fun b hb => hb3.block b hb.2) (fun b hb => ⟨hb.1, by omega⟩)
        have hm5 : IsSms w3 (fun b => X1.heap.size ≤ b ∧ b < w3.heap.size) (copyB ss[j].body (deep - 1)) (.slice B2 n2 c2) := hm4.keep (fun b hb => hb3.block b hb.2) (fun b hb => ⟨hb.1, by omega⟩)
        have hl5 : IsSms w3 (fun b => X1.heap.size ≤ b ∧ b < w3.heap.size) (copyB ss[j].els (deep - 1)) (.slice B3 n3 c3) := hN5.keep (fun b hb => rfl) (fun b hb => ⟨by omega, hb.2⟩)
        have hw3b : Below wo.heap.size wo w3 := hx3b.trans (hb3.mono (by omega))
        clear y0 y5 y6 z5
        have y0 := hk3'.c0
        have y6 := hk3'.c6
        have z6 := hk3'.fr 6
        obtain ⟨X4, hX4⟩ : ∃ X4 : World, X4 = w3.setCell ⟨wo.heap.size, 6, none⟩ (.slice B3 n3 c3) := ⟨_, rfl⟩
        have hx4s : X4.heap.size = w3.heap.size := by rw [hX4]; simp
        have hx4 : SmBlk X4 wo.heap.size yk yp yn yt (.slice B1 n1 c1) (.slice B2 n2 c2) (.slice B3 n3 c3) := by rw [hX4]; exact hk3'.set6 _
        have hx4b : Below wo.heap.size wo X4 := by rw [hX4]; exact hw3b.setCell (Nat.le_refl _) _
        have hkeep : ∀ b, X1.heap.size ≤ b ∧ b < w3.heap.size → X4.heap[b]? = w3.heap[b]? := fun b hb => by
          rw [hX4]
          exact Below.heap_setCell _ _ _ b (show b ≠ wo.heap.size by omega)
        have hS4 : ∀ b, X1.heap.size ≤ b ∧ b < w3.heap.size → X1.heap.size ≤ b ∧ b < X4.heap.size := fun b hb => by rw [hx4s]; exact hb
        have hn6 := hn5.keep hkeep hS4
        have hm6 := hm5.keep hkeep hS4
        have hl6 := hl5.keep hkeep hS4
        clear y0 y6 z6
        have y0 := hk3'.c0
        have y1 := hk3'.c1
        have y2 := hk3'.c2
        have y3 := hk3'.c3
        have y4 := hk3'.c4
        have y5 := hk3'.c5
        have y6 := hk3'.c6
        have z6 := hk3'.fr 6
        obtain ⟨X5, hX5⟩ : ∃ X5 : World, X5 = X4.alloc (.cells #[.int .i64 yk, .int .i64 yp, .string yn, .string yt, .slice B1 n1 c1, .slice B2 n2 c2, .slice B3 n3 c3] 55) := ⟨_, rfl⟩
        have hx5s : X5.heap.size = w3.heap.size + 1 := by rw [hX5]; simp; omega
        have hx5b : Below X4.heap.size X4 X5 := by rw [hX5]; exact (Below.refl _ X4).alloc (Nat.le_refl _) _
        have ho1 : OwnSm X5 g u5 (copyB (ss.take j) deep) := (HO.out.below hx4b).below hx5b
        have hnew : ∀ q y, (smCells Y ⟨.slice B1 n1 c1, .slice B2 n2 c2, .slice B3 n3 c3⟩)[q]? = some y → X5.cell? ((⟨w3.heap.size, 0, none⟩ : Addr).add q) = some y := fun q y hq => by
          rw [HCL.out] at hq
          rw [hX5, ← hx4s, add_pl, Nat.zero_add, cell_of_row _ _ q _ _ (0, 0) (heap_alloc_new X4 _)]
          simpa using hq
        have hno : ∀ b, X1.heap.size ≤ b → u5.ownBlock ≠ some b := fun b hb e => by
          have := (HO.out.lt e).2
          have := HX1S.out
          omega
        have hun : SmIn X5 (fun b => g ≤ b ∧ b < X5.heap.size ∧ u5.ownBlock ≠ some b) Y ⟨.slice B1 n1 c1, .slice B2 n2 c2, .slice B3 n3 c3⟩ := by
          have hk5 : ∀ b, X1.heap.size ≤ b ∧ b < X4.heap.size → X5.heap[b]? = X4.heap[b]? := fun b hb => hx5b.block b hb.2
          have hS5 : ∀ b, X1.heap.size ≤ b ∧ b < X4.heap.size → g ≤ b ∧ b < X5.heap.size ∧ u5.ownBlock ≠ some b := fun b hb => ⟨by omega, by omega, hno b hb.1⟩
          refine ⟨HNM.out, HTY.out, ?_, ?_, ?_⟩
          · rw [HE5.out]; exact hn6.keep hk5 hS5
          · rw [HE6.out]; exact hm6.keep hk5 hS5
          · rw [HE7.out]; exact hl6.keep hk5 hS5
        have hbel5 : Below g X X5 := (HBL.out.trans (hx4b.mono (by omega))).trans (hx5b.mono (by omega))
        have hg5 : g ≤ X5.heap.size := by omega
        rw [hX5, hX4] at ho1 hnew hun hbel5 hg5
        have HO1 := Lib.hid ho1
        have HNEW := Lib.hid hnew
        have HUN := Lib.hid hun
        have HBEL := Lib.hid hbel5
        have HG5 := Lib.hid hg5
        clear ho1 hnew hun hbel5 hg5 hno hX5 hX4 hx5s hx5b hx4s hx4b hn6 hm6 hl6 hn5 hm5 hl5 hk3' hx4 hw3b hkeep hS4 hw3s hi3 hb3 hN5 hx3 hx3b hn4 hm4 hX3 hx3s hx12 hw2s HCB HCLS HCC HK2 HN2 HN3 HW2B X5 X4
        go_wp2_with (first
          | (at_builtin; refine wpList_append_sm rfl _ _ rfl g u5 (copyB (ss.take j) deep) rfl HO1.out ⟨w3.heap.size, 0, none⟩ 1 Y ⟨.slice B1 n1 c1, .slice B2 n2 c2, .slice B3 n3 c3⟩ rfl HNEW.out HUN.out HLEN.out HG5.out ?_; intro v' w4 hown4 hgr))
        go_roundw
        case rel =>
          have hb4 := HBEL.out.grown hgr HG5.out (fun q hq => (HO.out.lt hq).1)
          exact ⟨j + 1, by omega, by go_num, Lib.hid (by rw [HCT.out]; exact hown4), Lib.hid hb4, by have h1 := hb4.size; have h2 := HXS.out; omega⟩
        case measure => simp [intOf]; omega
      · have hall : copyB (ss.take j) deep = copyB ss deep := by
          by_cases h0 : 0 < deep
          · have hje : ¬ j < ns := fun h => hgo ⟨h, h0⟩
            rw [List.take_of_length_le (by rw [← HNS.out]; omega)]
          · rw [copyB_none _ _ h0, copyB_none _ _ h0]
        rw [hall] at HO
        have hfin : IsSms wo (fun b => w.heap.size ≤ b ∧ b < wo.heap.size) (copyB ss deep) u5 := by rw [← HG.out]; exact HO.out.sms
        have hend : Below w.heap.size w wo := by rw [← HG.out]; exact HXB.out.trans HBL.out
        have hcase : j = ns ∨ (j < ns ∧ deep ≤ 0) := by
          rcases Nat.lt_or_ge j ns with h | h
          · exact .inr ⟨h, by
              rcases Int.lt_or_le 0 deep with h2 | h2
              · exact absurd ⟨h, h2⟩ hgo
              · exact h2⟩
          · exact .inl (by omega)
        clear hgo hall HHA HE HBD HEL HIB HIL
        rcases hcase with h | ⟨h, h'⟩
        all_goals
          go_wp2
          go_ret
          exact ⟨_, rfl, hfin, hend⟩

end Go.Proofs.YtmbkjabjcphkbaaDoor
end
section
/- Trees of declarations, plain, and in memory; the walk of WeighProgram. -/
set_option linter.unusedVariables false
namespace Go.Proofs.YtmbkjabjcphkbaaDoor
open Go.RowKit

structure Pr where
  name : List UInt8
  type : List UInt8
structure Dc where
  kind : Int
  pl : Int
  num : Int
  name : List UInt8
  type : List UInt8
  pairs : List Pr
  body : List Sm

/-- the names with their types lie at the slice v, in blocks of S -/
def PrsIn (w : World) (S : Nat → Prop) (ps : List Pr) (v : Value) : Prop :=
  ∃ A c, v = .slice A ps.length c ∧ ps.length ≤ c ∧ c ≤ 9223372036854775807 ∧
    ∀ (k : Nat) (hk : k < ps.length), ∃ b off, A = some ⟨b, off, none⟩ ∧ S b ∧ ps[k].name.length ≤ 140737488355328 ∧ ps[k].type.length ≤ 140737488355328 ∧
      w.cell? ⟨b, off + k * 2, none⟩ = some (.string (strOf ps[k].name)) ∧ w.cell? ⟨b, off + k * 2 + 1, none⟩ = some (.string (strOf ps[k].type))
theorem PrsIn.keep {w w' : World} {S S' : Nat → Prop} {ps : List Pr} {v : Value} (h : PrsIn w S ps v) (hw : ∀ b, S b → w'.heap[b]? = w.heap[b]?) (hS : ∀ b, S b → S' b) : PrsIn w' S' ps v := by
  obtain ⟨A, c, rfl, hc, hM, hA⟩ := h
  refine ⟨A, c, rfl, hc, hM, fun k hk => ?_⟩
  obtain ⟨b, off, h1, h2, h3, h4, c0, c1⟩ := hA k hk
  have hcell : ∀ i, w'.cell? ⟨b, i, none⟩ = w.cell? ⟨b, i, none⟩ := fun i => World.cell?_of_block (hw b h2)
  exact ⟨b, off, h1, hS b h2, h3, h4, by rw [hcell]; exact c0, by rw [hcell]; exact c1⟩
/-- the declarations lie at the slice v, in blocks of S -/
def DcsIn (w : World) (S : Nat → Prop) (ds : List Dc) (v : Value) : Prop :=
  ∃ A c, ∃ fp fb : Nat → Value, v = .slice A ds.length c ∧ ds.length ≤ c ∧ c ≤ 9223372036854775807 ∧
    (∀ (k : Nat) (hk : k < ds.length), ∃ b off, A = some ⟨b, off, none⟩ ∧ S b ∧ ds[k].name.length ≤ 140737488355328 ∧ ds[k].type.length ≤ 140737488355328 ∧
      w.cell? ⟨b, off + k * 7, none⟩ = some (.int .i64 ds[k].kind) ∧ w.cell? ⟨b, off + k * 7 + 1, none⟩ = some (.int .i64 ds[k].pl) ∧ w.cell? ⟨b, off + k * 7 + 2, none⟩ = some (.int .i64 ds[k].num) ∧
      w.cell? ⟨b, off + k * 7 + 3, none⟩ = some (.string (strOf ds[k].name)) ∧ w.cell? ⟨b, off + k * 7 + 4, none⟩ = some (.string (strOf ds[k].type)) ∧
      w.cell? ⟨b, off + k * 7 + 5, none⟩ = some (fp k) ∧ w.cell? ⟨b, off + k * 7 + 6, none⟩ = some (fb k)) ∧
    (∀ (k : Nat) (hk : k < ds.length), PrsIn w S ds[k].pairs (fp k)) ∧ (∀ (k : Nat) (hk : k < ds.length), IsSms w S ds[k].body (fb k))
theorem DcsIn.keep {w w' : World} {S S' : Nat → Prop} {ds : List Dc} {v : Value} (h : DcsIn w S ds v) (hw : ∀ b, S b → w'.heap[b]? = w.heap[b]?) (hS : ∀ b, S b → S' b) : DcsIn w' S' ds v := by
  obtain ⟨A, c, fp, fb, rfl, hc, hM, hA, hp, hb⟩ := h
  refine ⟨A, c, fp, fb, rfl, hc, hM, fun k hk => ?_, fun k hk => (hp k hk).keep hw hS, fun k hk => (hb k hk).keep hw hS⟩
  obtain ⟨b, off, h1, h2, h3, h4, c0, c1, c2, c3, c4, c5, c6⟩ := hA k hk
  have hcell : ∀ i, w'.cell? ⟨b, i, none⟩ = w.cell? ⟨b, i, none⟩ := fun i => World.cell?_of_block (hw b h2)
  exact ⟨b, off, h1, hS b h2, h3, h4, by rw [hcell]; exact c0, by rw [hcell]; exact c1, by rw [hcell]; exact c2, by rw [hcell]; exact c3, by rw [hcell]; exact c4, by rw [hcell]; exact c5, by rw [hcell]; exact c6⟩

/-- so much with the names and types of ps more -/
def goP : List Pr → Int → Int → Int
  | [], n, _ => n
  | p :: ps, n, most => if n ≤ most then goP ps (n + (1 + (p.name.length : Int) + (p.type.length : Int))) most else n
theorem goP_go {p : Pr} {ps : List Pr} {n most : Int} (h : n ≤ most) : goP (p :: ps) n most = goP ps (n + (1 + (p.name.length : Int) + (p.type.length : Int))) most := by
  rw [goP, if_pos h]
theorem goP_stop (ps : List Pr) (n most : Int) (h : ¬ n ≤ most) : goP ps n most = n := by
  cases ps with
  | nil => rw [goP]
  | cons s ss => rw [goP, if_neg h]
/-- so much with a declaration more -/
def goD (d : Dc) (n most deep : Int) : Int :=
  let n2 := goP d.pairs (n + (1 + (d.name.length : Int) + (d.type.length : Int))) most
  if n2 ≤ most then n2 + weighB d.body (most - n2) deep else n2
def goDs : List Dc → Int → Int → Int → Int
  | [], n, _, _ => n
  | d :: ds, n, most, deep => if n ≤ most then goDs ds (goD d n most deep) most deep else n
theorem goDs_go {s : Dc} {ss : List Dc} {n most deep : Int} (h : n ≤ most) : goDs (s :: ss) n most deep = goDs ss (goD s n most deep) most deep := by
  rw [goDs, if_pos h]
theorem goDs_stop (ss : List Dc) (n most deep : Int) (h : ¬ n ≤ most) : goDs ss n most deep = n := by
  cases ss with
  | nil => rw [goDs]
  | cons s ss => rw [goDs, if_neg h]

/-- block g is a declaration -/
def DcBlk (w : World) (g : Nat) (k p u : Int) (n t : ByteArray) (a b : Value) : Prop := w.heap[g]? = some (.cells #[.int .i64 k, .int .i64 p, .int .i64 u, .string n, .string t, a, b] 53 (0, 0))
section
variable {w w' : World} {g B : Nat} {k p u : Int} {n t : ByteArray} {a b : Value}
theorem DcBlk.new (w : World) (k p u : Int) (n t : ByteArray) (a b : Value) : DcBlk (w.alloc (.cells #[.int .i64 k, .int .i64 p, .int .i64 u, .string n, .string t, a, b] 53)) w.heap.size k p u n t a b := heap_alloc_new w _
theorem DcBlk.below (h : DcBlk w g k p u n t a b) (hb : Below B w w') (hg : g < B) : DcBlk w' g k p u n t a b := (hb.block g hg).trans h
theorem DcBlk.c0 (h : DcBlk w g k p u n t a b) : w.cell? ⟨g, 0, none⟩ = some (.int .i64 k) := by rw [cell_of_row w g 0 _ _ (0, 0) h]; rfl
theorem DcBlk.c1 (h : DcBlk w g k p u n t a b) : w.cell? ⟨g, 1, none⟩ = some (.int .i64 p) := by rw [cell_of_row w g 1 _ _ (0, 0) h]; rfl
theorem DcBlk.c2 (h : DcBlk w g k p u n t a b) : w.cell? ⟨g, 2, none⟩ = some (.int .i64 u) := by rw [cell_of_row w g 2 _ _ (0, 0) h]; rfl
theorem DcBlk.c3 (h : DcBlk w g k p u n t a b) : w.cell? ⟨g, 3, none⟩ = some (.string n) := by rw [cell_of_row w g 3 _ _ (0, 0) h]; rfl
theorem DcBlk.c4 (h : DcBlk w g k p u n t a b) : w.cell? ⟨g, 4, none⟩ = some (.string t) := by rw [cell_of_row w g 4 _ _ (0, 0) h]; rfl
theorem DcBlk.c5 (h : DcBlk w g k p u n t a b) : w.cell? ⟨g, 5, none⟩ = some a := by rw [cell_of_row w g 5 _ _ (0, 0) h]; rfl
theorem DcBlk.c6 (h : DcBlk w g k p u n t a b) : w.cell? ⟨g, 6, none⟩ = some b := by rw [cell_of_row w g 6 _ _ (0, 0) h]; rfl
theorem DcBlk.fr (h : DcBlk w g k p u n t a b) (j : Nat) : w.frozen? ⟨g, j, none⟩ = false := frozen_of_row w g j _ _ h
theorem DcBlk.set5 (h : DcBlk w g k p u n t a b) (x : Value) : DcBlk (w.setCell ⟨g, 5, none⟩ x) g k p u n t x b := by
  unfold DcBlk at h ⊢
  simp [World.setCell, Array.getElem?_modify, h]
theorem DcBlk.set6 (h : DcBlk w g k p u n t a b) (x : Value) : DcBlk (w.setCell ⟨g, 6, none⟩ x) g k p u n t a x := by
  unfold DcBlk at h ⊢
  simp [World.setCell, Array.getElem?_modify, h]
end
theorem goP_bound {most : Int} (hm : most ≤ 100000) : ∀ (ps : List Pr) (n : Int), (∀ (k : Nat) (hk : k < ps.length), ps[k].name.length ≤ 140737488355328 ∧ ps[k].type.length ≤ 140737488355328) → 0 ≤ n → n ≤ most + 562949953421312 → 0 ≤ goP ps n most ∧ goP ps n most ≤ most + 562949953421312
  | [], n, _, h0, h1 => by rw [goP]; exact ⟨h0, h1⟩
  | s :: ss, n, h, h0, h1 => by
    rw [goP]
    split
    · rename_i hle
      have h2 := h 0 (by simp)
      have h3 : s.name.length ≤ 140737488355328 ∧ s.type.length ≤ 140737488355328 := h2
      exact goP_bound hm ss _ (fun j hj => h (j + 1) (by simpa using hj)) (by omega) (by omega)
    · exact ⟨h0, h1⟩
theorem drop_pr {ps : List Pr} {j : Nat} (h : j < ps.length) : ps.drop j = ps[j] :: ps.drop (j + 1) := List.drop_eq_getElem_cons h
theorem drop_dc {ps : List Dc} {j : Nat} (h : j < ps.length) : ps.drop j = ps[j] :: ps.drop (j + 1) := List.drop_eq_getElem_cons h

set_option maxHeartbeats 4000000 in
set_option maxRecDepth 100000 in
theorem weighp_any {w0 : World} {B : Nat} {ds : List Dc} {v : Value} (h : DcsIn w0 (· < B) ds v) (most deep : Int) (w : World) (hb : Below B w0 w) (hB : B ≤ w.heap.size) (hm0 : 0 ≤ most) (hm : most ≤ 100000) (hd0 : 0 ≤ deep) (hd : deep ≤ 100000) :
    Calls Tryd.prog 19 #[.agg #[v], .int .i64 most, .int .i64 deep] w (WeighPost w (goDs ds 0 most deep)) := by
  obtain ⟨A, c, fp, fb, rfl, hc, hM, hA, hp, hbd⟩ := h
  obtain ⟨ns, hns⟩ : ∃ ns, ns = ds.length := ⟨_, rfl⟩
  rw [← hns] at hc ⊢
  have HNS := Lib.hid hns
  have HP := Lib.hid hp
  have HBD := Lib.hid hbd
  have HHA := Lib.hid hA
  have HB0 := Lib.hid hb
  clear hns hp hbd hA hb
  go_enter Tryd.func19, Tryd.ntmps19
  go_wp2
  obtain ⟨X, hX⟩ : ∃ X : World, X = w.alloc (.cells #[.slice A ns c] 39) := ⟨_, rfl⟩
  obtain ⟨g, hg⟩ : ∃ g, g = w.heap.size := ⟨_, rfl⟩
  have hx1 : X.cell? ⟨g, 0, none⟩ = some (.slice A ns c) := by rw [hX, hg, cell_of_row _ _ 0 _ _ (0, 0) (heap_alloc_new w _)]; rfl
  have hxs : X.heap.size = g + 1 := by rw [hX, hg]; simp
  have hxb : Below g w X := by rw [hX, hg]; exact (Below.refl _ w).alloc (Nat.le_refl _) _
  rw [← hX, ← hg]
  have HX1 := Lib.hid hx1
  have HXS := Lib.hid hxs
  have HXB := Lib.hid hxb
  have HG := Lib.hid hg
  clear hX hx1 hxs hxb hg
  go_loopw [7, 8] (fun n i wr => ∃ (j : Nat) (nn : Int), j ≤ ns ∧ i = .int .i64 j ∧ n = .int .i64 nn ∧ 0 ≤ nn ∧ nn ≤ 562949953521312 ∧ Hid (goDs (ds.drop j) nn most deep = goDs ds 0 most deep) ∧ Hid (Below (g + 1) X wr)) (fun _ i _ => ns - (intOf i).toNat)
  case atStart => exact ⟨0, 0, Nat.zero_le _, rfl, rfl, by omega, by omega, Lib.hid rfl, Lib.hid (Below.refl _ _)⟩
  case round =>
    obtain ⟨wo, rfl⟩ : ∃ wo : World, wo = wr := ⟨_, rfl⟩
    obtain ⟨j, nn, hj, rfl, rfl, hn0, hn1, HGO, HBL⟩ := hrel
    have k0 : wo.cell? ⟨g, 0, none⟩ = some (.slice A ns c) := (HBL.out.cell (p := ⟨g, 0, none⟩) (by simp)).trans HX1.out
    have hws : g < wo.heap.size := by have := HBL.out.size; have := HXS.out; omega
    by_cases hlt : j < ns
    · by_cases hle : nn ≤ most
      · have hje : j < ds.length := by rw [← HNS.out]; exact hlt
        obtain ⟨b, off, rfl, hbB, hnm, hty, p0, p1, p2, p3, p4, p5, p6⟩ := HHA.out j hje
        obtain ⟨A1, c1, hf1, hc1, hM1, hprs⟩ := HP.out j hje
        obtain ⟨A2, c2, hf2, hc2, hM2⟩ := (HBD.out j hje).slice
        have hib := weighb_any (HBD.out j hje)
        have hdr := drop_dc hje
        rw [hf1] at p5
        rw [hf2] at p6 hib
        obtain ⟨Y, hY⟩ : ∃ Y, Y = ds[j] := ⟨_, rfl⟩
        rw [← hY] at p0 p1 p2 p3 p4 p5 p6 hnm hty hc1 hc2 hib hdr
        have hprs' : ∀ (k : Nat) (hk : k < Y.pairs.length), ∃ b off, A1 = some ⟨b, off, none⟩ ∧ b < B ∧ Y.pairs[k].name.length ≤ 140737488355328 ∧ Y.pairs[k].type.length ≤ 140737488355328 ∧
            w0.cell? ⟨b, off + k * 2, none⟩ = some (.string (strOf Y.pairs[k].name)) ∧ w0.cell? ⟨b, off + k * 2 + 1, none⟩ = some (.string (strOf Y.pairs[k].type)) := by
          rw [hY]; exact hprs
        have hbw : Below B w0 wo := HB0.out.trans ((HXB.out.trans (HBL.out.mono (by omega))).mono (by rw [HG.out]; exact hB))
        have hsx : B ≤ wo.heap.size := by have := HG.out; omega
        have HGO2 : Hid (goDs (ds.drop (j + 1)) (goD Y nn most deep) most deep = goDs ds 0 most deep) := Lib.hid (by
          have := HGO.out
          rw [hdr, goDs_go hle] at this
          exact this)
        have r0 := (hbw.cell (p := ⟨b, off + j * 7, none⟩) hbB).trans p0
        have r1 := (hbw.cell (p := ⟨b, off + j * 7 + 1, none⟩) hbB).trans p1
        have r2 := (hbw.cell (p := ⟨b, off + j * 7 + 2, none⟩) hbB).trans p2
        have r3 := (hbw.cell (p := ⟨b, off + j * 7 + 3, none⟩) hbB).trans p3
        have r4 := (hbw.cell (p := ⟨b, off + j * 7 + 4, none⟩) hbB).trans p4
        have r5 := (hbw.cell (p := ⟨b, off + j * 7 + 5, none⟩) hbB).trans p5
        have r6 := (hbw.cell (p := ⟨b, off + j * 7 + 6, none⟩) hbB).trans p6
        obtain ⟨yk, hyk⟩ : ∃ x, x = Y.kind := ⟨_, rfl⟩
        obtain ⟨yp, hyp⟩ : ∃ x, x = Y.pl := ⟨_, rfl⟩
        obtain ⟨yu, hyu⟩ : ∃ x, x = Y.num := ⟨_, rfl⟩
        obtain ⟨nl, hnl⟩ : ∃ nl, nl = Y.name.length := ⟨_, rfl⟩
        obtain ⟨tl, htl⟩ : ∃ tl, tl = Y.type.length := ⟨_, rfl⟩
        obtain ⟨n1, hn1'⟩ : ∃ n1, n1 = Y.pairs.length := ⟨_, rfl⟩
        obtain ⟨m2, hm2⟩ : ∃ m2, m2 = Y.body.length := ⟨_, rfl⟩
        obtain ⟨sn, hsn⟩ : ∃ sn, sn = strOf Y.name := ⟨_, rfl⟩
        obtain ⟨st, hst⟩ : ∃ st, st = strOf Y.type := ⟨_, rfl⟩
        have z1 : sn.size = nl := by rw [hsn, Lib.size_eq, strOf_data, hnl]
        have z2 : st.size = tl := by rw [hst, Lib.size_eq, strOf_data, htl]
        obtain ⟨X2, hX2⟩ : ∃ X2 : Int, X2 = goP Y.pairs (nn + (1 + (nl : Int) + (tl : Int))) most := ⟨_, rfl⟩
        have hgd : goD Y nn most deep = if X2 ≤ most then X2 + weighB Y.body (most - X2) deep else X2 := by rw [hX2, hnl, htl]; rfl
        rw [← hyk] at r0
        rw [← hyp] at r1
        rw [← hyu] at r2
        rw [← hsn] at r3
        rw [← hst] at r4
        rw [hY, ← hY, ← hn1'] at r5
        rw [← hm2] at r6 hc2 hib
        rw [← hn1'] at hc1
        rw [← hnl] at hnm
        rw [← htl] at hty
        have hx2b : 0 ≤ X2 ∧ X2 ≤ most + 562949953421312 := by
          rw [hX2]
          refine goP_bound hm Y.pairs _ (fun k hk => ?_) (by omega) (by omega)
          obtain ⟨_, _, _, _, q1, q2, _⟩ := hprs' k hk
          exact ⟨q1, q2⟩
        obtain ⟨X1, hX1⟩ : ∃ X1 : World, X1 = wo.alloc (.cells #[.int .i64 yk, .int .i64 yp, .int .i64 yu, .string sn, .string st, .slice A1 n1 c1, .slice A2 m2 c2] 53) := ⟨_, rfl⟩
        have hx1 : DcBlk X1 wo.heap.size yk yp yu sn st (.slice A1 n1 c1) (.slice A2 m2 c2) := by rw [hX1]; exact DcBlk.new wo _ _ _ _ _ _ _
        have hx1s : X1.heap.size = wo.heap.size + 1 := by rw [hX1]; simp
        have hx1b : Below wo.heap.size wo X1 := by rw [hX1]; exact (Below.refl _ wo).alloc (Nat.le_refl _) _
        have y3 := hx1.c3
        have y4 := hx1.c4
        have y0 := hx1.c0
        have HX2 := Lib.hid hX2
        have HGD := Lib.hid hgd
        have HN1 := Lib.hid hn1'
        have HPR := Lib.hid hprs'
        have HIB := Lib.hid hib
        have HXK := Lib.hid hx1
        have HXS1 := Lib.hid hx1s
        have HXB1 := Lib.hid hx1b
        have HX1E := Lib.hid hX1
        have hx20 := hx2b.1
        have hx21 := hx2b.2
        have q1 : -9223372036854775808 ≤ 1 + (nl : Int) ∧ 1 + (nl : Int) ≤ 9223372036854775807 := by omega
        have q2 : -9223372036854775808 ≤ 1 + (nl : Int) + (tl : Int) ∧ 1 + (nl : Int) + (tl : Int) ≤ 9223372036854775807 := by omega
        have q3 : -9223372036854775808 ≤ nn + (1 + (nl : Int) + (tl : Int)) ∧ nn + (1 + (nl : Int) + (tl : Int)) ≤ 9223372036854775807 := by omega
        have x1 := IntWalk.i64_in _ q1
        have x2 := IntWalk.i64_in _ q2
        have x3 := IntWalk.i64_in _ q3
        clear q1 q2 q3 hX2 hgd hprs hprs' hib hx1 hx1s hx1b hX1 hx2b hdr hnl htl hn1' hm2 hsn hst hY hyk hyp hyu hf1 hf2 p0 p1 p2 p3 p4 p5 p6 HHA HP HBD y0 y3 y4
        go_wp2
        rw [← HX1E.out]
        clear x1 x2 x3 r0 r1 r2 r3 r4 r5 r6
        go_loopw [7, 10] (fun n i wr => ∃ (kk : Nat) (mm : Int), kk ≤ n1 ∧ i = .int .i64 kk ∧ n = .int .i64 mm ∧ 0 ≤ mm ∧ mm ≤ 562949953521312 ∧ Hid (goP (Y.pairs.drop kk) mm most = X2) ∧ Hid (Below X1.heap.size X1 wr)) (fun _ i _ => n1 - (intOf i).toNat)
        case atStart => exact ⟨0, _, Nat.zero_le _, rfl, rfl, by omega, by omega, Lib.hid HX2.out.symm, Lib.hid (Below.refl _ _)⟩
        case round =>
          obtain ⟨wi, rfl⟩ : ∃ wi : World, wi = wr := ⟨_, rfl⟩
          obtain ⟨kk, mm, hkk, rfl, rfl, hmm0, hmm1, HWI, HBI⟩ := hrel
          have hs1 := HXS1.out
          have hsi := HBI.out.size
          have hd1 := HXK.out.below HBI.out (by omega)
          have y0 := hd1.c0
          have y5 := hd1.c5
          have y6 := hd1.c6
          have hwb : Below wo.heap.size wo wi := HXB1.out.trans (HBI.out.mono (by omega))
          have hbi : Below B w0 wi := hbw.trans (hwb.mono hsx)
          by_cases hgo : kk < n1 ∧ mm ≤ most
          · obtain ⟨hkl, hml⟩ := hgo
            have hke : kk < Y.pairs.length := by rw [← HN1.out]; exact hkl
            obtain ⟨b', off', rfl, hbB', hnm2, hty2, p0, p1⟩ := HPR.out kk hke
            have s0 := (hbi.cell (p := ⟨b', off' + kk * 2, none⟩) hbB').trans p0
            have s1 := (hbi.cell (p := ⟨b', off' + kk * 2 + 1, none⟩) hbB').trans p1
            have hdr := drop_pr hke
            obtain ⟨al, hal⟩ : ∃ nl, nl = Y.pairs[kk].name.length := ⟨_, rfl⟩
            obtain ⟨bl, hbl⟩ : ∃ tl, tl = Y.pairs[kk].type.length := ⟨_, rfl⟩
            obtain ⟨ta, hta⟩ : ∃ sn, sn = strOf Y.pairs[kk].name := ⟨_, rfl⟩
            obtain ⟨tb, htb⟩ : ∃ st, st = strOf Y.pairs[kk].type := ⟨_, rfl⟩
            have z3 : ta.size = al := by rw [hta, Lib.size_eq, strOf_data, hal]
            have z4 : tb.size = bl := by rw [htb, Lib.size_eq, strOf_data, hbl]
            have HWN : Hid (goP (Y.pairs.drop (kk + 1)) (mm + (1 + (al : Int) + (bl : Int))) most = X2) := Lib.hid (by
              have := HWI.out
              rw [hdr, goP_go hml] at this
              rw [hal, hbl]
              exact this)
            rw [← hta] at s0
            rw [← htb] at s1
            rw [← hal] at hnm2
            rw [← hbl] at hty2
            have q1 : -9223372036854775808 ≤ 1 + (al : Int) ∧ 1 + (al : Int) ≤ 9223372036854775807 := by omega
            have q2 : -9223372036854775808 ≤ 1 + (al : Int) + (bl : Int) ∧ 1 + (al : Int) + (bl : Int) ≤ 9223372036854775807 := by omega
            have q3 : -9223372036854775808 ≤ mm + (1 + (al : Int) + (bl : Int)) ∧ mm + (1 + (al : Int) + (bl : Int)) ≤ 9223372036854775807 := by omega
            have x1 := IntWalk.i64_in _ q1
            have x2 := IntWalk.i64_in _ q2
            have x3 := IntWalk.i64_in _ q3
            clear q1 q2 q3 hdr hal hbl hta htb p0 p1 HPR hd1
            go_wp2
            go_quiet (fail)
            clear x1 x2 x3
            generalize hwq : wi.drewN _ = wq
            have hdq : Drawn wi wq := ⟨_, hwq.symm⟩
            have hb0 : Below wi.heap.size wi wq := hdq.below
            have HB00 := Lib.hid hb0
            clear hwq hdq hb0
            go_wp2
            go_roundw
            case rel => exact ⟨kk + 1, _, by omega, by go_num, rfl, by omega, by omega, HWN, Lib.hid (HBI.out.trans (HB00.out.mono hsi))⟩
            case measure => simp [intOf]; omega
          · obtain rfl : mm = X2 := by
              have hw := HWI.out
              by_cases hkl : kk < n1
              · rw [goP_stop _ _ _ (fun h => hgo ⟨hkl, h⟩)] at hw; exact hw
              · rw [List.drop_of_length_le (by rw [← HN1.out]; omega), goP] at hw; exact hw
            have hcase : (kk < n1 ∧ ¬ mm ≤ most) ∨ kk = n1 := by
              rcases Nat.lt_or_ge kk n1 with h | h
              · exact .inl ⟨h, fun h2 => hgo ⟨h, h2⟩⟩
              · exact .inr (by omega)
            clear hgo HPR HWI hd1
            by_cases hle2 : mm ≤ most
            · have hkn : kk = n1 := by
                rcases hcase with h | h
                · exact absurd hle2 h.2
                · exact h
              clear hcase
              obtain ⟨hcb, hyb0, hyb1⟩ := HIB.out (most - mm) deep wi hbi (by omega) (by omega) (by omega) (by omega) (by omega)
              obtain ⟨yb, hyb⟩ : ∃ x, x = weighB Y.body (most - mm) deep := ⟨_, rfl⟩
              have HG4 : Hid (goD Y nn most deep = mm + yb) := Lib.hid (by rw [HGD.out, if_pos hle2, hyb])
              rw [← hyb] at hcb hyb0 hyb1
              have HCB := Lib.hid hcb
              clear hcb hyb
              go_wp2_with (first
                | ((with_reducible refine HCB.out.mono ?_); rintro e w5 ⟨rfl, hb5⟩))
              have hs5 := hb5.size
              go_roundw
              case rel => exact ⟨j + 1, mm + yb, by omega, by go_num, rfl, by omega, by omega, Lib.hid (by rw [← HG4.out]; exact HGO2.out), Lib.hid (HBL.out.trans ((hwb.trans (hb5.mono (by omega))).mono (by omega)))⟩
              case measure => simp [intOf]; omega
            · have HG4 : Hid (goD Y nn most deep = mm) := Lib.hid (by rw [HGD.out, if_neg hle2])
              rcases hcase with ⟨h, h'⟩ | h
              all_goals
                go_wp2
                go_roundw
                case rel => exact ⟨j + 1, mm, by omega, by go_num, rfl, by omega, by omega, Lib.hid (by rw [← HG4.out]; exact HGO2.out), Lib.hid (HBL.out.trans (hwb.mono (by omega)))⟩
                case measure => simp [intOf]; omega
      · have HWS : Hid (nn = goDs ds 0 most deep) := Lib.hid (by have := HGO.out; rw [goDs_stop _ _ _ _ hle] at this; exact this)
        have hend : Below w.heap.size w wo := by rw [← HG.out]; exact HXB.out.trans (HBL.out.mono (by omega))
        clear HHA HP HBD
        go_wp2
        go_ret
        exact ⟨ret_int HWS.out, hend⟩
    · have hje : j = ns := by omega
      have HWS : Hid (nn = goDs ds 0 most deep) := Lib.hid (by
        have := HGO.out
        rw [List.drop_of_length_le (by rw [hje, HNS.out]; exact Nat.le_refl _), goDs] at this
        exact this)
      have hend : Below w.heap.size w wo := by rw [← HG.out]; exact HXB.out.trans (HBL.out.mono (by omega))
      clear HHA HP HBD hje
      go_wp2
      go_ret
      exact ⟨ret_int HWS.out, hend⟩

end Go.Proofs.YtmbkjabjcphkbaaDoor
end
section
/- Texts of trees, plain: the tokens of a tree, or none where no text has such a tree. -/
set_option linter.unusedVariables false
namespace Go.Proofs.YtmbkjabjcphkbaaDoor
open Go.RowKit

/-- tokens, or none -/
abbrev Ts := Option (List (List UInt8))
def cat (a b : Ts) : Ts := match a with
  | none => none
  | some x => match b with
    | none => none
    | some y => some (x ++ y)
theorem cat_none_l (b : Ts) : cat none b = none := rfl
theorem cat_none_r (a : Ts) : cat a none = none := by cases a <;> rfl
theorem cat_some (x y : List (List UInt8)) : cat (some x) (some y) = some (x ++ y) := rfl
theorem cat_nil_r (a : Ts) : cat a (some []) = a := by cases a <;> simp [cat]
theorem cat_nil_l (a : Ts) : cat (some []) a = a := by cases a <;> simp [cat]
theorem cat_assoc (a b c : Ts) : cat (cat a b) c = cat a (cat b c) := by cases a <;> cases b <;> cases c <;> simp [cat]

/-- tokens with a blank between each two -/
def joinT : List (List UInt8) → List UInt8
  | [] => []
  | [t] => t
  | t :: u :: r => t ++ 32 :: joinT (u :: r)
theorem joinT_cons (t : List UInt8) {r : List (List UInt8)} (h : r ≠ []) : joinT (t :: r) = t ++ 32 :: joinT r := by
  cases r with
  | nil => exact absurd rfl h
  | cons u r => rfl
theorem joinT_append {a b : List (List UInt8)} (ha : a ≠ []) (hb : b ≠ []) : joinT (a ++ b) = joinT a ++ 32 :: joinT b := by
  induction a with
  | nil => exact absurd rfl ha
  | cons t a ih =>
    cases a with
    | nil => exact joinT_cons t hb
    | cons u a =>
      have h := ih (by simp)
      show joinT (t :: ((u :: a) ++ b)) = _
      rw [joinT_cons t (by simp), joinT_cons t (r := u :: a) (by simp), h]
      simp
theorem joinT_snoc (a : List (List UInt8)) (t : List UInt8) : joinT (a ++ [t]) = joinT a ++ (if a = [] then [] else [32]) ++ t := by
  by_cases h : a = []
  · subst h; simp [joinT]
  · rw [joinT_append h (by simp), if_neg h]; simp [joinT]
theorem joinT_len_le (a b : List (List UInt8)) : (joinT a).length ≤ (joinT (a ++ b)).length := by
  by_cases ha : a = []
  · subst ha; simp [joinT]
  · by_cases hb : b = []
    · subst hb; simp
    · rw [joinT_append ha hb]; simp

/-- within the limits -/
def fits (T : List (List UInt8)) : Prop := (joinT T).length ≤ 16384 ∧ T.length ≤ 4096
instance (T : List (List UInt8)) : Decidable (fits T) := by unfold fits; infer_instance
theorem fits_nil : fits [] := by decide
theorem fits_of_append {a b : List (List UInt8)} (h : fits (a ++ b)) : fits a := by
  refine ⟨Nat.le_trans (joinT_len_le a b) h.1, ?_⟩
  have := h.2
  simp at this; omega
def lim : Ts → Ts
  | none => none
  | some T => if fits T then some T else none
/-- what is there of tokens, with some more behind -/
def adv (T : List (List UInt8)) (C : Ts) : Ts := lim (cat (some T) C)
theorem adv_none (T : List (List UInt8)) : adv T none = none := rfl
theorem adv_nil {T : List (List UInt8)} (h : fits T) : adv T (some []) = some T := by simp [adv, cat, lim, h]
theorem adv_some (T x : List (List UInt8)) : adv T (some x) = if fits (T ++ x) then some (T ++ x) else none := rfl
theorem adv_fits {T U : List (List UInt8)} {C : Ts} (h : adv T C = some U) : fits U := by
  cases C with
  | none => cases h
  | some x => rw [adv_some] at h; split at h <;> simp_all
theorem adv_cat_none {T : List (List UInt8)} {C : Ts} (h : adv T C = none) (D : Ts) : adv T (cat C D) = none := by
  cases C with
  | none => rfl
  | some x =>
    cases D with
    | none => rfl
    | some y =>
      rw [adv_some] at h
      rw [cat_some, adv_some, if_neg]
      intro hf
      rw [← List.append_assoc] at hf
      rw [if_pos (fits_of_append hf)] at h
      cases h
theorem adv_cat_some {T U : List (List UInt8)} {C : Ts} (h : adv T C = some U) (D : Ts) : adv T (cat C D) = adv U D := by
  cases C with
  | none => cases h
  | some x =>
    rw [adv_some] at h
    split at h
    · cases h
      cases D with
      | none => rfl
      | some y => rw [cat_some, adv_some, adv_some, List.append_assoc]
    · cases h
/-- the text, and the error -/
def fin (C : Ts) : List UInt8 × Int := match lim C with
  | none => ([], 23)
  | some T => (joinT T, 0)
theorem adv_start (C : Ts) : adv [] C = lim C := by rw [adv, cat_nil_l]

/-- a name -/
def nmT (s : List UInt8) : Ts := if nameB s = true then some [s] else none
/-- a type's tokens -/
def tyT (t : List UInt8) : Ts :=
  if t.head? = some 42 then (if nameB t.tail = true then some [[42], t.tail] else none)
  else if t = [91, 93, 105, 110, 116] then some [[91], [93], [105, 110, 116]]
  else if t = [105, 110, 116] ∨ t = [98, 111, 111, 108] then some [t] else none

def opsL : List (List UInt8) := [[43], [45], [42], [47], [37], [38], [124], [60], [60, 61], [61, 61], [33, 61]]
/-- what an expression of its kind has besides its parts -/
def headB (k n : Int) (s : List UInt8) (chain : Int) : Bool :=
  if k = 1 then decide (0 ≤ n ∧ n ≤ 999999999999999999 ∧ s = [])
  else if k = 2 then decide ((n = 0 ∨ n = 1) ∧ s = [])
  else if k = 3 then decide (n = 0 ∧ s = [])
  else if k = 4 then decide (n = 0 ∧ nameB s = true)
  else if k = 5 then decide (n = 0 ∧ nameB s = true ∧ chain < 8)
  else if k = 6 then decide (n = 0 ∧ s = [] ∧ chain < 8)
  else if k = 7 then decide (n = 0 ∧ s = [] ∧ chain < 8)
  else if k = 8 then decide (n = 0 ∧ s = [])
  else if k = 9 then decide (n = 0 ∧ (s = [45] ∨ s = [33]))
  else if k = 10 then decide (n = 0 ∧ s ∈ opsL)
  else if k = 11 then decide (n = 0 ∧ nameB s = true)
  else if k = 12 then decide (n = 0 ∧ s = [])
  else if k = 13 then decide (n = 0 ∧ nameB s = true)
  else false
/-- how many parts -/
def argsN (k : Int) : Nat := if k = 5 ∨ k = 8 ∨ k = 9 ∨ k = 12 then 1 else if k = 6 ∨ k = 10 then 2 else if k = 7 then 3 else 0
/-- is the first part an object that the others stand behind? -/
def behindB (k : Int) : Bool := decide (k = 5 ∨ k = 6 ∨ k = 7)
def shapeE (k n : Int) (s : List UInt8) : List (List (List UInt8)) → List (List UInt8)
  | [] => if k = 1 then [Lib.itoa n] else if k = 2 then (if n = 1 then [[116, 114, 117, 101]] else [[102, 97, 108, 115, 101]]) else if k = 3 then [[110, 105, 108]]
    else if k = 4 then [s] else if k = 11 then [[110, 101, 119], s] else [[114, 101, 108, 101, 97, 115, 101], s]
  | [a] => if k = 5 then a ++ [[46], s] else if k = 8 then [[108, 101, 110], [40]] ++ a ++ [[41]] else if k = 9 then [[40], s] ++ a ++ [[41]] else [[109, 97, 107, 101], [40]] ++ a ++ [[41]]
  | [a, b] => if k = 6 then a ++ [[91]] ++ b ++ [[93]] else [[40]] ++ a ++ [s] ++ b ++ [[41]]
  | a :: b :: c :: _ => a ++ [[91]] ++ b ++ [[58]] ++ c ++ [[93]]
mutual
/-- an expression's tokens: so deep, behind so many -/
def penE : Ex → Int → Int → Ts
  | .mk k _ n s args, deep, chain =>
    if deep ≤ 24 ∧ headB k n s chain = true ∧ args.length = argsN k then (penAs args (behindB k) deep chain).map (shapeE k n s) else none
/-- the tokens of each of an expression's parts -/
def penAs : List Ex → Bool → Int → Int → Option (List (List (List UInt8)))
  | [], _, _, _ => some []
  | e :: es, b, deep, chain => match (if b = true then penE e deep (chain + 1) else penE e (deep + 1) 0) with
    | none => none
    | some x => match penAs es false deep chain with
      | none => none
      | some xs => some (x :: xs)
end
/-- the tokens of each of a statement's expressions -/
def penEs : List Ex → Int → Option (List (List (List UInt8)))
  | [], _ => some []
  | e :: es, deep => match penE e deep 0 with
    | none => none
    | some x => match penEs es deep with
      | none => none
      | some xs => some (x :: xs)

/-- what a statement of its kind has besides its parts -/
def stHead (k : Int) (nm ty : List UInt8) (ex : List Ex) (nb nl : Nat) : Bool :=
  if k = 1 then decide (nameB nm = true ∧ (tyT ty).isSome = true ∧ ex.length = 1 ∧ nb = 0 ∧ nl = 0)
  else if k = 2 then decide (nm = [] ∧ ty = [] ∧ ex.length = 2 ∧ nb = 0 ∧ nl = 0) && (match ex with | [] => false | e :: _ => decide (e.kind = 4 ∨ e.kind = 5 ∨ e.kind = 6))
  else if k = 3 then decide (nm = [] ∧ ty = [] ∧ ex.length = 1)
  else if k = 4 then decide (nm = [] ∧ ty = [] ∧ ex.length = 1 ∧ nl = 0)
  else if k = 5 then decide (nameB nm = true ∧ ty = [] ∧ ex.length = 0 ∧ nb = 0 ∧ nl = 0)
  else if k = 6 then decide (nameB nm = true ∧ ty = [] ∧ ex.length = 0 ∧ nb = 0 ∧ nl = 0)
  else if k = 7 then decide (nameB nm = true ∧ ty = [] ∧ ex.length = 1 ∧ nb = 0 ∧ nl = 0)
  else if k = 8 then decide (nameB nm = true ∧ nameB ty = true ∧ ex.length = 0 ∧ nb = 0 ∧ nl = 0)
  else if k = 9 then decide (nameB nm = true ∧ ty = [] ∧ ex.length = 1 ∧ nb = 0 ∧ nl = 0)
  else if k = 10 then decide (nameB nm = true ∧ (ty = [] ∨ nameB ty = true) ∧ ex.length ≤ 4 ∧ nb = 0 ∧ nl = 0)
  else if k = 11 then decide (nm = [] ∧ ty = [] ∧ ex.length ≤ 1 ∧ nb = 0 ∧ nl = 0)
  else false
/-- lists of tokens with a comma between each two -/
def commas : List (List (List UInt8)) → List (List UInt8)
  | [] => []
  | [a] => a
  | a :: b :: r => a ++ [44] :: commas (b :: r)
def wordS (k : Int) : List UInt8 :=
  if k = 1 then [118, 97, 114] else if k = 2 then [115, 101, 116] else if k = 3 then [105, 102] else if k = 4 then [119, 104, 105, 108, 101] else if k = 5 then [108, 111, 99, 107]
  else if k = 6 then [117, 110, 108, 111, 99, 107] else if k = 7 then [115, 101, 110, 100] else if k = 8 then [114, 101, 99, 118] else if k = 9 then [111, 117, 116]
  else if k = 10 then [99, 97, 108, 108] else [114, 101, 116, 117, 114, 110]
/-- the tokens of a statement that has no blocks -/
def shapeS (k : Int) (nm ty : List UInt8) (xs : List (List (List UInt8))) : List (List UInt8) :=
  if k = 1 then [wordS 1, nm] ++ (tyT ty).getD [] ++ [[61]] ++ xs.flatten ++ [[59]]
  else if k = 2 then [wordS 2] ++ (match xs with | a :: r => a ++ [[61]] ++ r.flatten | [] => []) ++ [[59]]
  else if k = 8 then [wordS 8, nm, ty, [59]]
  else if k = 10 then [wordS 10] ++ (if ty = [] then [] else [ty, [61]]) ++ [nm, [40]] ++ commas xs ++ [[41], [59]]
  else if k = 11 then [wordS 11] ++ xs.flatten ++ [[59]]
  else [wordS k, nm] ++ xs.flatten ++ [[59]]
def inBlock (deep : Int) (c : Ts) : Ts := if deep ≤ 24 then cat (some [[123]]) (cat c (some [[125]])) else none
mutual
/-- the tokens of a statement of a block that is so deep -/
def penS : Sm → Int → Ts
  | .mk k _ nm ty ex bd el, deep =>
    if stHead k nm ty ex bd.length el.length = true then
      match penEs ex (deep + 1) with
      | none => none
      | some xs =>
        if k = 3 ∨ k = 4 then cat (some ([wordS k] ++ xs.flatten)) (cat (inBlock (deep + 1) (penSs bd (deep + 1)))
          (if el.length = 0 then some [] else cat (some [[101, 108, 115, 101]]) (inBlock (deep + 1) (penSs el (deep + 1)))))
        else some (shapeS k nm ty xs)
    else none
def penSs : List Sm → Int → Ts
  | [], _ => some []
  | s :: ss, deep => cat (penS s deep) (penSs ss deep)
end
/-- a block's tokens -/
def penB (ss : List Sm) (deep : Int) : Ts := inBlock deep (penSs ss deep)
/-- a name with its type -/
def penPr (p : Pr) : Ts := cat (nmT p.name) (tyT p.type)
/-- fields -/
def penFs : List Pr → Ts
  | [] => some []
  | p :: ps => cat (cat (penPr p) (some [[59]])) (penFs ps)
/-- parameters, behind so many -/
def penPs : List Pr → Nat → Ts
  | [], _ => some []
  | p :: ps, i => cat (cat (some (if i = 0 then [] else [[44]])) (penPr p)) (penPs ps (i + 1))
def need (p : Prop) [Decidable p] (c : Ts) : Ts := if p then c else none
/-- a declaration's tokens -/
def penD (d : Dc) : Ts :=
  cat (need (nameB d.name = true) (some [])) (
  if d.kind = 1 then need (d.num = 0 ∧ d.type = [] ∧ d.pairs.length = 0 ∧ d.body.length = 0) (some [wordS 5, d.name, [59]])
  else if d.kind = 2 then need (1 ≤ d.num ∧ d.num ≤ 4 ∧ d.type = [] ∧ d.pairs.length = 0 ∧ d.body.length = 0) (some [[99, 104, 97, 110], d.name, Lib.itoa d.num, [59]])
  else if d.kind = 3 then need (d.num = 0 ∧ d.type = [] ∧ d.pairs.length ≤ 8 ∧ d.body.length = 0) (cat (some [[115, 116, 114, 117, 99, 116], d.name, [123]]) (cat (penFs d.pairs) (some [[125]])))
  else if d.kind = 4 then need (d.num = 0 ∧ d.pairs.length = 0 ∧ d.body.length = 0) (cat (some [wordS 1, d.name]) (cat (tyT d.type) (some [[59]])))
  else if d.kind = 5 then need (d.num = 0 ∧ d.type = [] ∧ d.pairs.length = 0 ∧ d.body.length = 0) (some [[105, 110, 112, 117, 116], d.name, [59]])
  else if d.kind = 6 then need (d.num = 0 ∧ d.type = [] ∧ d.pairs.length = 0 ∧ d.body.length = 0) (some [[115, 105, 110, 107], d.name, [59]])
  else if d.kind = 7 then need (d.num = 0 ∧ d.pairs.length ≤ 4) (cat (some [[102, 117, 110, 99], d.name, [40]]) (cat (penPs d.pairs 0) (cat (some [[41]]) (cat (if d.type = [] then some [] else tyT d.type) (penB d.body 1)))))
  else if d.kind = 8 then need (d.num = 0 ∧ d.type = [] ∧ d.pairs.length = 0) (cat (some [[116, 104, 114, 101, 97, 100], d.name]) (penB d.body 1))
  else none)
def penDs : List Dc → Ts
  | [] => some []
  | d :: ds => cat (penD d) (penDs ds)
/-- a program's tokens -/
def penP (ds : List Dc) : Ts := need (ds.length ≤ 64) (penDs ds)

end Go.Proofs.YtmbkjabjcphkbaaDoor
end
section
/- The pen: what it holds, and what a call that writes leaves. -/
set_option linter.unusedVariables false
namespace Go.Proofs.YtmbkjabjcphkbaaDoor
open Go.RowKit

def byV (l : List UInt8) : List Value := l.map fun b => Value.int .u8 (b.toNat : Nat)
/-- the slice v of the bytes l lies in the call's own memory from base on -/
def OwnBytes (w : World) (base : Nat) (v : Value) (l : List UInt8) : Prop := w.ownsRow base 5 1 v l.length (byV l)
theorem byV_app (a b : List UInt8) : byV (a ++ b) = byV a ++ byV b := by simp [byV]
theorem info_u8 : (Tryd.prog.info? 5).map (fun i => (i.zero, i.size, i.bytes)) = some (some (.int .u8 0), 1, 1) := by kernel_rfl
theorem OwnBytes.nil (w : World) (base : Nat) : OwnBytes w base (.slice none 0 0) [] := ⟨rfl, .inl ⟨rfl, rfl⟩⟩
theorem OwnBytes.keep {w w' : World} {base : Nat} {v : Value} {l : List UInt8} (h : OwnBytes w base v l) (hb : ∀ g, v.ownBlock = some g → w'.heap[g]? = w.heap[g]?) : OwnBytes w' base v l := by
  unfold OwnBytes at h ⊢
  rcases h with ⟨h1, h2 | ⟨g, cap, cur, hv, hbg, hg, h3⟩⟩
  · exact ⟨h1, .inl h2⟩
  · exact ⟨h1, .inr ⟨g, cap, cur, hv, hbg, (hb g (by rw [hv]; rfl)).trans hg, h3⟩⟩
theorem OwnBytes.alloc {w : World} {base : Nat} {v : Value} {l : List UInt8} (h : OwnBytes w base v l) (o : Obj) : OwnBytes (w.alloc o) base v l := World.ownsRow.alloc h o
theorem OwnBytes.conv {w : World} {base : Nat} {v : Value} {l : List UInt8} (h : OwnBytes w base v l) :
    (convert 69 9 v).run Tryd.prog w = .ok (.string (strOf l)) w := by
  rcases h with ⟨h1, ⟨rfl, h2⟩ | ⟨g, cap, cur, rfl, hbg, hg, h3, h4, h5, h6⟩⟩
  · obtain rfl : l = [] := List.eq_nil_of_length_eq_zero h2
    exact Lib.run_convert_nil_bytes w 69 9 5 0 Tryd.underlying69 Tryd.underlying5 Tryd.underlying9
  · refine run_convert_bytes_back w 69 9 5 ⟨g, 0, none⟩ cap l Tryd.underlying69 Tryd.underlying5 Tryd.underlying9 (Lib.bytes_of_row hg ?_)
    rw [Nat.mul_one] at h6
    exact h6
theorem OwnBytes.form {w : World} {base : Nat} {v : Value} {l : List UInt8} (h : OwnBytes w base v l) : ∃ A c, v = .slice A l.length c := by
  rcases h with ⟨h1, ⟨rfl, h2⟩ | ⟨g, cap, cur, rfl, hbg, hg, h3⟩⟩
  · exact ⟨none, 0, by rw [h2]⟩
  · exact ⟨some ⟨g, 0, none⟩, cap, rfl⟩
theorem OwnBytes.blk {w : World} {base : Nat} {v : Value} {l : List UInt8} (h : OwnBytes w base v l) {g : Nat} (hg : v.ownBlock = some g) : base ≤ g ∧ ∃ cur, w.heap[g]? = some (.cells cur 5 (0, 0)) := by
  rcases h with ⟨h1, ⟨rfl, h2⟩ | ⟨g', cap, cur, rfl, hbg, hg', h3⟩⟩
  · cases hg
  · have e : g' = g := by simpa [Value.ownBlock] using hg
    subst e
    exact ⟨hbg, cur, hg'⟩

/-- where the slice lies behind an append of a text -/
theorem text_lies {w w' : World} {base : Nat} {v v' : Value} {l t : List UInt8} {ty : TypeId} (hown : OwnBytes w base v l) (hb : l.length + t.length ≤ 100000)
    (hr : (Builtin.append_ #[69, 9] ty #[v, .string (strOf t)]).run Tryd.prog w = .ok v' w') (hn : v' = .slice none 0 0 ↔ v = .slice none 0 0 ∧ (strOf t).size = 0) : v'.ownBlock = v.ownBlock ∨ v'.ownBlock = some w.heap.size := by
  obtain ⟨i0, hi, hz0, hz1, hz2⟩ := info_parts info_u8
  have hsz : (strOf t).size = t.length := by rw [Lib.size_eq, strOf_data]
  rcases hown with ⟨h1, ⟨rfl, h2⟩ | ⟨g, cap, cur, rfl, hbg, hg, h3, h4, h5, h6⟩⟩
  · by_cases hm : (strOf t).size = 0
    · rw [hn.2 ⟨rfl, hm⟩]; exact .inl rfl
    · rw [run_append_nil_string (P := Tryd.prog) w 69 9 ty 5 i0 (.int .u8 0) Tryd.underlying69 Tryd.underlying9 hi hz0 (strOf t) (by omega) (by omega) (by rw [hz2]; omega)] at hr
      cases hr
      exact .inr rfl
  · rw [Nat.mul_one] at h5 h6 h1
    by_cases hroom : l.length + (strOf t).size ≤ cap
    · rw [Lib.run_append_room_string (P := Tryd.prog) w 69 9 ty 5 i0 Tryd.underlying69 Tryd.underlying9 hi hz1 g l.length cap cur hg (strOf t) hroom (by omega)] at hr
      cases hr
      exact .inl rfl
    · have holds : ∀ j u, (byV l)[j]? = some u → w.cell? ((⟨g, 0, none⟩ : Addr).add j) = some u := World.ownsRow.cells (g := g) ⟨by rw [Nat.mul_one]; exact h1, .inr ⟨g, cap, cur, rfl, hbg, hg, h3, h4, by rw [Nat.mul_one]; exact h5, by rw [Nat.mul_one]; exact h6⟩⟩ rfl
      rw [Lib.run_append_grow_string (P := Tryd.prog) w 69 9 ty 5 i0 (.int .u8 0) Tryd.underlying69 Tryd.underlying9 hi hz0 ⟨g, 0, none⟩ l.length cap (byV l) (by rw [hz1, Nat.mul_one]; exact h1) holds (strOf t) (by omega) (by omega) (by rw [hz2]; exact growslice_fits (by omega) (by omega))] at hr
      cases hr
      exact .inr rfl
/-- append of a text's bytes -/
theorem wpList_append_text {ops : Array Oper} {rest : List Oper} {o : Oper} {a : Act} {w : World} {Q : Exit → Act → World → Prop} (hgd : o.guard = none) (sl x : Operand)
    (ho : o.op = .call { callee := .builtin .append, args := #[sl, x], argTypes := #[69, 9] })
    (base : Nat) (v : Value) (l : List UInt8) (hs : a.eval sl = v) (hown : OwnBytes w base v l) (t : List UInt8) (hx : a.eval x = .string (strOf t)) (hb : l.length + t.length ≤ 100000) (hbase : base ≤ w.heap.size)
    (h : ∀ v' w', OwnBytes w' base v' (l ++ t) → w.grownBy w' v.ownBlock → (v'.ownBlock = v.ownBlock ∨ v'.ownBlock = some w.heap.size) → wpList Tryd.prog ops Q rest (a.put o.dst v') w') : wpList Tryd.prog ops Q (o :: rest) a w := by
  obtain ⟨i0, hi, hz0, hz1, hz2⟩ := info_parts info_u8
  have hsz : (strOf t).size = t.length := by rw [Lib.size_eq, strOf_data]
  refine wpList_plain hgd fun K hK => ?_
  obtain ⟨v', w', hr, h2, h3, h4⟩ := Lib.run_append_own_string (P := Tryd.prog) w base 69 9 o.type 5 i0 Tryd.underlying69 Tryd.underlying9 hi hz0 hz1 hz2 v l.length (byV l) hown (strOf t) (by unfold maxLen; omega) (by omega) hbase
  have hl := text_lies hown hb hr h4
  unfold Oper.wp execOp
  simp only [ho, resolve, invoke, builtin, Sem.run_bind, Sem.run_pure, Result.andThen_ok, List.map_toArray, List.map_cons, List.map_nil, hs, hx, hr]
  refine hK _ _ (h v' w' ?_ h3 hl)
  unfold OwnBytes
  rw [List.length_append, byV_app]
  rw [hsz] at h2
  exact h2
/-- append of a blank -/
theorem wpList_append_blank {ops : Array Oper} {rest : List Oper} {o : Oper} {a : Act} {w : World} {Q : Exit → Act → World → Prop} (hgd : o.guard = none) (sl x : Operand)
    (ho : o.op = .call { callee := .builtin .append, args := #[sl, x], argTypes := #[69, 69] })
    (base : Nat) (v : Value) (l : List UInt8) (hs : a.eval sl = v) (hown : OwnBytes w base v l) (g c : Nat) (hx : a.eval x = .slice (some ⟨g, 0, none⟩) 1 c) (hg : w.cell? ⟨g, 0, none⟩ = some (.int .u8 32)) (hb : l.length ≤ 100000) (hbase : base ≤ w.heap.size)
    (h : ∀ v' w', OwnBytes w' base v' (l ++ [32]) → w.grownBy w' v.ownBlock → (v'.ownBlock = v.ownBlock ∨ v'.ownBlock = some w.heap.size) → wpList Tryd.prog ops Q rest (a.put o.dst v') w') : wpList Tryd.prog ops Q (o :: rest) a w := by
  obtain ⟨i0, hi, hz0, hz1, hz2⟩ := info_parts info_u8
  refine wpList_append_lies _ hgd sl x 69 ho base 5 i0 (.int .u8 0) 1 1 Tryd.underlying69 hi hz0 hz1 hz2 rfl (by decide) v l.length (byV l) hs hown ⟨g, 0, none⟩ 1 c [.int .u8 32] hx rfl (fun j u hu => ?_) (by simp [Value.oneCell']) (by omega) (by unfold maxLen; omega) (by omega) hbase w.heap.size rfl fun g' cap w' hown' hgr hat _ => h _ w' ?_ hgr ?_
  · match j, hu with
    | 0, hu =>
      have e : Value.int .u8 32 = u := by simpa using hu
      rw [add_pl, ← e]; exact hg
    | j + 1, hu => simp at hu
  · unfold OwnBytes
    rw [List.length_append, byV_app]
    exact hown'
  · rcases hat with h1 | h1
    · exact .inl h1.symm
    · exact .inr (by rw [h1]; rfl)

/-- but for the blocks of P the world w' is as w was; the streams are as they were; no block has gone -/
structure Chg (P : Nat → Prop) (w w' : World) : Prop where
  os : w'.os = w.os
  tape : w'.tape = w.tape
  output : w'.output = w.output
  size : w.heap.size ≤ w'.heap.size
  block : ∀ k, k < w.heap.size → ¬ P k → w'.heap[k]? = w.heap[k]?
theorem Chg.refl (P : Nat → Prop) (w : World) : Chg P w w := ⟨rfl, rfl, rfl, Nat.le_refl _, fun _ _ _ => rfl⟩
theorem Chg.trans {P P' : Nat → Prop} {a b c : World} (h : Chg P a b) (k : Chg P' b c) (hp : ∀ x, x < a.heap.size → P' x → P x) : Chg P a c :=
  ⟨k.os.trans h.os, k.tape.trans h.tape, k.output.trans h.output, Nat.le_trans h.size k.size, fun i hi hn => (k.block i (Nat.lt_of_lt_of_le hi h.size) (fun e => hn (hp i hi e))).trans (h.block i hi hn)⟩
theorem Chg.of_below {P : Nat → Prop} {w w' : World} (h : Below w.heap.size w w') : Chg P w w' := ⟨h.os, h.tape, h.output, h.size, fun k hk _ => h.block k hk⟩
theorem Chg.alloc {P : Nat → Prop} {a w : World} (h : Chg P a w) (o : Obj) : Chg P a (w.alloc o) :=
  h.trans (P' := fun _ => False) ⟨rfl, rfl, rfl, by simp, fun k hk _ => Below.heap_alloc _ _ _ hk⟩ (fun _ _ e => e.elim)
theorem Chg.setCell {P : Nat → Prop} {a w : World} (h : Chg P a w) (p : Addr) (u : Value) (hp : p.block < a.heap.size → P p.block) : Chg P a (w.setCell p u) :=
  h.trans (P' := fun x => x = p.block) ⟨rfl, rfl, rfl, by simp [World.setCell], fun k hk hn => Below.heap_setCell _ _ _ _ hn⟩ (fun x hx e => by rw [e]; exact hp (by rw [← e]; exact hx))
theorem Chg.grown {P : Nat → Prop} {a w w' : World} {row : Option Nat} (h : Chg P a w) (hg : w.grownBy w' row) (hr : ∀ k, k < a.heap.size → row = some k → P k) : Chg P a w' :=
  h.trans (P' := fun x => row = some x) ⟨hg.os, hg.tape, hg.output, hg.size, fun k hk hn => hg.block k hk (fun e => hn e.symm)⟩ hr
theorem Chg.below {P : Nat → Prop} {w w' : World} {B : Nat} (h : Chg P w w') (hB : B ≤ w.heap.size) (hp : ∀ x, P x → B ≤ x) : Below B w w' :=
  ⟨h.os, h.tape, h.output, h.size, fun k hk => h.block k (by omega) (fun e => by have := hp k e; omega)⟩
theorem Chg.cell {P : Nat → Prop} {w w' : World} (h : Chg P w w') {p : Addr} {v : Value} (hc : w.cell? p = some v) (hn : ¬ P p.block) : w'.cell? p = some v :=
  (World.cell?_of_block (w := w) (h.block p.block (lt_of_cell hc) hn)).trans hc
theorem Chg.drew {P : Nat → Prop} {a w : World} (h : Chg P a w) : Chg P a w.drew := ⟨h.os, h.tape, h.output, h.size, h.block⟩

/-- the pen: block Bc counts the tokens T, block Ba holds their text -/
structure PenAt (w : World) (Bc Ba base : Nat) (v : Value) (T : List (List UInt8)) : Prop where
  cnt : w.heap[Bc]? = some (.cells #[.int .i64 T.length] 3 (0, 0))
  buf : w.heap[Ba]? = some (.cells #[v] 69 (0, 0))
  own : OwnBytes w base v (joinT T)
  fit : fits T
  bc : base ≤ Bc
  ba : base ≤ Ba
/-- the pen's blocks -/
def Mine (Bc Ba : Nat) (v : Value) (b : Nat) : Prop := b = Bc ∨ b = Ba ∨ v.ownBlock = some b
theorem lt_of_heap {w : World} {g : Nat} {o : Obj} (h : w.heap[g]? = some o) : g < w.heap.size := by
  rcases Nat.lt_or_ge g w.heap.size with hlt | hge
  · exact hlt
  · rw [Array.getElem?_eq_none hge] at h; cases h
section
variable {w w' w1 w2 : World} {Bc Ba base : Nat} {v v' v1 v2 : Value} {T T' T1 T2 : List (List UInt8)}
theorem PenAt.ne (h : PenAt w Bc Ba base v T) : Bc ≠ Ba := fun e => by
  have h1 := h.cnt
  rw [e, h.buf] at h1
  simp at h1
theorem PenAt.nec (h : PenAt w Bc Ba base v T) : v.ownBlock ≠ some Bc := fun e => by
  obtain ⟨_, cur, hg⟩ := h.own.blk e
  rw [h.cnt] at hg
  simp at hg
theorem PenAt.nea (h : PenAt w Bc Ba base v T) : v.ownBlock ≠ some Ba := fun e => by
  obtain ⟨_, cur, hg⟩ := h.own.blk e
  rw [h.buf] at hg
  simp at hg
theorem PenAt.mine (h : PenAt w Bc Ba base v T) {b : Nat} (hb : Mine Bc Ba v b) : base ≤ b ∧ b < w.heap.size := by
  rcases hb with rfl | rfl | hb
  · exact ⟨h.bc, lt_of_heap h.cnt⟩
  · exact ⟨h.ba, lt_of_heap h.buf⟩
  · obtain ⟨h1, cur, hg⟩ := h.own.blk hb
    exact ⟨h1, lt_of_heap hg⟩
/-- what keeps the pen's blocks keeps the pen -/
theorem PenAt.keep (h : PenAt w Bc Ba base v T) (hk : ∀ b, Mine Bc Ba v b → w'.heap[b]? = w.heap[b]?) : PenAt w' Bc Ba base v T :=
  ⟨(hk Bc (.inl rfl)).trans h.cnt, (hk Ba (.inr (.inl rfl))).trans h.buf, h.own.keep fun g hg => hk g (.inr (.inr hg)), h.fit, h.bc, h.ba⟩
theorem PenAt.alloc (h : PenAt w Bc Ba base v T) (o : Obj) : PenAt (w.alloc o) Bc Ba base v T := h.keep fun b hb => Below.heap_alloc _ _ _ (h.mine hb).2
theorem PenAt.below (h : PenAt w Bc Ba base v T) (hb : Below w.heap.size w w') : PenAt w' Bc Ba base v T := h.keep fun b hm => hb.block b (h.mine hm).2
theorem PenAt.setCell (h : PenAt w Bc Ba base v T) (p : Addr) (u : Value) (hp : ¬ Mine Bc Ba v p.block) : PenAt (w.setCell p u) Bc Ba base v T :=
  h.keep fun b hb => Below.heap_setCell _ _ _ _ (fun e => hp (by rw [← e]; exact hb))
theorem PenAt.drew (h : PenAt w Bc Ba base v T) : PenAt w.drew Bc Ba base v T := h.keep fun b hb => rfl

/-- from w with the pen at v to w' with the pen at v', which has written T' -/
def Went (w : World) (Bc Ba base : Nat) (v : Value) (w' : World) (v' : Value) (T' : List (List UInt8)) : Prop :=
  PenAt w' Bc Ba base v' T' ∧ (∀ b, v'.ownBlock = some b → v.ownBlock = some b ∨ w.heap.size ≤ b) ∧ Chg (Mine Bc Ba v) w w'
theorem Went.mine (h : Went w Bc Ba base v w' v' T') {b : Nat} (hb : Mine Bc Ba v' b) (hlt : b < w.heap.size) : Mine Bc Ba v b := by
  rcases hb with rfl | rfl | hb
  · exact .inl rfl
  · exact .inr (.inl rfl)
  · rcases h.2.1 b hb with h1 | h1
    · exact .inr (.inr h1)
    · omega
theorem Went.refl (h : PenAt w Bc Ba base v T) : Went w Bc Ba base v w v T := ⟨h, fun b hb => .inl hb, Chg.refl _ _⟩
theorem Went.trans (h : Went w Bc Ba base v w1 v1 T1) (k : Went w1 Bc Ba base v1 w2 v2 T2) : Went w Bc Ba base v w2 v2 T2 := by
  refine ⟨k.1, fun b hb => ?_, h.2.2.trans k.2.2 fun x hx hm => h.mine hm hx⟩
  rcases k.2.1 b hb with h1 | h1
  · exact h.2.1 b h1
  · have := h.2.2.size; exact .inr (by omega)
theorem Went.fell (h : Went w Bc Ba base v w1 v1 T1) (k : Chg (Mine Bc Ba v1) w1 w2) : Chg (Mine Bc Ba v) w w2 := h.2.2.trans k fun x hx hm => h.mine hm hx
theorem Went.alloc (h : Went w Bc Ba base v w1 v1 T1) (o : Obj) : Went w Bc Ba base v (w1.alloc o) v1 T1 := ⟨h.1.alloc o, h.2.1, h.2.2.alloc o⟩
theorem Went.below (h : Went w Bc Ba base v w1 v1 T1) (hb : Below w1.heap.size w1 w2) : Went w Bc Ba base v w2 v1 T1 := ⟨h.1.below hb, h.2.1, h.2.2.trans (Chg.of_below (P := fun _ => False) hb) fun _ _ e => e.elim⟩
theorem Went.setCell (h : Went w Bc Ba base v w1 v1 T1) (p : Addr) (u : Value) (hp : w.heap.size ≤ p.block) (hm : ¬ Mine Bc Ba v1 p.block) : Went w Bc Ba base v (w1.setCell p u) v1 T1 :=
  ⟨h.1.setCell p u hm, h.2.1, h.2.2.setCell p u fun e => by omega⟩
theorem Went.drew (h : Went w Bc Ba base v w1 v1 T1) : Went w Bc Ba base v w1.drew v1 T1 := ⟨h.1.drew, h.2.1, h.2.2.drew⟩
/-- how a call ends that writes: R: what is written then, or none -/
def PenPost (w : World) (Bc Ba base : Nat) (v : Value) (R : Ts) (e : Ending) (w' : World) : Prop := match R with
  | some T' => e = .returned (.tuple #[]) ∧ ∃ v', Went w Bc Ba base v w' v' T'
  | none => e = boom ∧ Chg (Mine Bc Ba v) w w'
/-- the texts ts lie at the slice tv, outside the blocks of P -/
def StrsAt (w : World) (P : Nat → Prop) (tv : Value) (ts : List (List UInt8)) : Prop :=
  ∃ A c, tv = .slice A ts.length c ∧ ts.length ≤ c ∧ c ≤ 9223372036854775807 ∧ ∀ (k : Nat) (hk : k < ts.length), ∃ b off, A = some ⟨b, off, none⟩ ∧ ¬ P b ∧ ts[k].length ≤ 40000 ∧ w.cell? ⟨b, off + k, none⟩ = some (.string (strOf ts[k]))
end
end Go.Proofs.YtmbkjabjcphkbaaDoor
end
