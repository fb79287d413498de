/- Un; Uo; Up; Ur; Us; Ut; Xo; Ta -/
import Derived.Test.YtmbkjabjcphkbaaDoorZa2
import Derived.Maps.AppendAt
import Derived.Test.YtmbkjabjcphkbaaDoorZb3
import Derived.Test.YtmbkjabjcphkbaaDoorZa0
section
/- A list of names with types, copied by append. -/
set_option linter.unusedVariables false
namespace Go.Proofs.YtmbkjabjcphkbaaDoor
open Go.RowKit

def prsV : List Pr → List Value
  | p :: ps => .string (strOf p.name) :: .string (strOf p.type) :: prsV ps
  | [] => []
theorem prsV_len : ∀ ps : List Pr, (prsV ps).length = ps.length * 2
  | [] => rfl
  | p :: ps => by simp [prsV, prsV_len ps]; omega
theorem prsV_get0 : ∀ (ps : List Pr) (k : Nat) (hk : k < ps.length), (prsV ps)[k * 2]? = some (.string (strOf ps[k].name))
  | p :: ps, 0, _ => rfl
  | p :: ps, k + 1, hk => by
    rw [show (k + 1) * 2 = k * 2 + 1 + 1 from by omega]
    exact prsV_get0 ps k (by simpa using hk)
theorem prsV_get1 : ∀ (ps : List Pr) (k : Nat) (hk : k < ps.length), (prsV ps)[k * 2 + 1]? = some (.string (strOf ps[k].type))
  | p :: ps, 0, _ => rfl
  | p :: ps, k + 1, hk => by
    rw [show (k + 1) * 2 + 1 = k * 2 + 1 + 1 + 1 from by omega]
    exact prsV_get1 ps k (by simpa using hk)
theorem prsV_one (ps : List Pr) : ∀ u ∈ prsV ps, u.oneCell' = true := by
  induction ps with
  | nil => intro u hu; simp [prsV] at hu
  | cons p ps ih =>
    intro u hu
    simp [prsV] at hu
    rcases hu with rfl | rfl | hu
    · rfl
    · rfl
    · exact ih u hu
theorem prsV_cell {w : World} {b off : Nat} {ps : List Pr} (h : ∀ (k : Nat) (hk : k < ps.length), w.cell? ⟨b, off + k * 2, none⟩ = some (.string (strOf ps[k].name)) ∧ w.cell? ⟨b, off + k * 2 + 1, none⟩ = some (.string (strOf ps[k].type))) :
    ∀ j u, (prsV ps)[j]? = some u → w.cell? ((⟨b, off, none⟩ : Addr).add j) = some u := by
  intro j u hj
  have hlt : j < ps.length * 2 := by
    rw [← prsV_len]
    rcases Nat.lt_or_ge j (prsV ps).length with h1 | h1
    · exact h1
    · rw [List.getElem?_eq_none h1] at hj; cases hj
  rw [add_pl]
  rcases Nat.mod_two_eq_zero_or_one j with hm | hm
  · have e : j = j / 2 * 2 := by omega
    rw [e, prsV_get0 ps (j / 2) (by omega)] at hj
    rw [e, (h (j / 2) (by omega)).1]
    exact hj
  · have e : j = j / 2 * 2 + 1 := by omega
    rw [e, prsV_get1 ps (j / 2) (by omega)] at hj
    rw [e, show off + (j / 2 * 2 + 1) = off + j / 2 * 2 + 1 from by omega, (h (j / 2) (by omega)).2]
    exact hj

theorem info_pr : (Tryd.prog.info? 71).map (fun i => (i.zero, i.size, i.bytes)) = some (some (.agg #[.string ⟨#[]⟩, .string ⟨#[]⟩]), 2, 32) := by kernel_rfl

theorem prs_of_row {w : World} {base : Nat} {v : Value} {ps : List Pr} (hs : ∀ (k : Nat) (hk : k < ps.length), ps[k].name.length ≤ 140737488355328 ∧ ps[k].type.length ≤ 140737488355328)
    (h : w.ownsRow base 71 2 v ps.length (prsV ps)) : PrsIn w (fun b => base ≤ b ∧ b < w.heap.size ∧ v.ownBlock = some b) ps v := by
  have hlt := h.lt
  have hcell : ∀ (g : Nat), v.ownBlock = some g → ∀ (j : Nat) (u : Value), (prsV ps)[j]? = some u → w.cell? ⟨g, 0 + j, none⟩ = some u := fun g hg j u hu => by
    have := h.cells hg j u hu
    rw [add_pl] at this
    exact this
  rcases h.2 with ⟨rfl, h2⟩ | ⟨g, cap, cur, rfl, hbg, hg, hc1, hc2, _⟩
  · exact ⟨none, 0, by rw [h2], by omega, by omega, fun k hk => absurd hk (by omega)⟩
  · refine ⟨_, cap, rfl, hc1, by unfold maxLen at hc2; omega, fun k hk => ⟨g, 0, rfl, ⟨hbg, (hlt g rfl).2, rfl⟩, (hs k hk).1, (hs k hk).2, ?_, ?_⟩⟩
    · exact hcell g rfl (k * 2) _ (prsV_get0 ps k hk)
    · exact hcell g rfl (k * 2 + 1) _ (prsV_get1 ps k hk)

/-- append of the whole list to a new, empty one -/
theorem wpList_append_prs {ops : Array Oper} {rest : List Oper} {o : Oper} {a : Act} {w : World} {Q : Exit → Act → World → Prop} (hgd : o.guard = none) (s x : Operand)
    (ho : o.op = .call { callee := .builtin .append, args := #[s, x], argTypes := #[50, 50] })
    (g : Nat) (hs : a.eval s = .slice (some ⟨g, 0, none⟩) 0 0) (hg : w.heap[g]? = some (.cells #[] 71 (0, 0))) (hgs : g < w.heap.size) (S : Nat → Prop) (ps : List Pr) (v : Value) (hx : a.eval x = v) (hp : PrsIn w S ps v) (hn : ps.length ≤ 1000000)
    (h : ∀ v' w', PrsIn w' (fun b => g ≤ b ∧ b < w'.heap.size ∧ (b = g ∨ w.heap.size ≤ b)) ps v' → w.grownBy w' (some g) → wpList Tryd.prog ops Q rest (a.put o.dst v') w') : wpList Tryd.prog ops Q (o :: rest) a w := by
  obtain ⟨i0, hi, hz0, hz1, hz2⟩ := info_parts info_pr
  obtain ⟨A, c, rfl, hc, hM, hA⟩ := hp
  have hrow : w.ownsRow g 71 2 (.slice (some ⟨g, 0, none⟩) 0 0) 0 [] := ⟨rfl, .inr ⟨g, 0, #[], rfl, Nat.le_refl _, hg, Nat.le_refl _, by unfold maxLen; omega, rfl, rfl⟩⟩
  have hsm : ∀ (k : Nat) (hk : k < ps.length), ps[k].name.length ≤ 140737488355328 ∧ ps[k].type.length ≤ 140737488355328 := fun k hk => by
    obtain ⟨_, _, _, _, q1, q2, _⟩ := hA k hk
    exact ⟨q1, q2⟩
  have hfin : ∀ v' w', w'.ownsRow g 71 2 v' (0 + ps.length) ([] ++ prsV ps) → w.grownBy w' (Value.slice (some ⟨g, 0, none⟩) 0 0).ownBlock → (v'.ownBlock = (Value.slice (some ⟨g, 0, none⟩) 0 0).ownBlock ∨ v'.ownBlock = some w.heap.size) → wpList Tryd.prog ops Q rest (a.put o.dst v') w' := by
    intro v' w' h1 h2 h3
    rw [Nat.zero_add, List.nil_append] at h1
    refine h v' w' ((prs_of_row hsm h1).keep (fun _ _ => rfl) (fun b hb => ⟨hb.1, hb.2.1, ?_⟩)) h2
    rcases h3 with h3 | h3
    · left
      have := hb.2.2
      rw [h3] at this
      simpa [Value.ownBlock] using this.symm
    · right
      have := hb.2.2
      rw [h3] at this
      have e : w.heap.size = b := by simpa using this
      omega
  cases A with
  | none =>
    have h0 : ps = [] := by
      cases ps with
      | nil => rfl
      | cons p ps =>
        obtain ⟨_, _, q, _⟩ := hA 0 (by simp)
        cases q
    subst h0
    have hr : (Builtin.append_ #[50, 50] o.type #[.slice (some ⟨g, 0, none⟩) 0 0, .slice none 0 c]).run Tryd.prog w = .ok (.slice (some ⟨g, 0, none⟩) 0 0) w := by
      simp [Builtin.append_, run_underlying Tryd.underlying50, sizeOf, typeInfo, hi, Builtin.lenOf, Builtin.firstCells, loadCells, loadCellsFrom, storeCells]
    refine wpList_plain hgd fun K hK => ?_
    unfold Oper.wp execOp
    simp only [ho, resolve, invoke, builtin, Sem.run_bind, Sem.run_pure, Result.andThen_ok, List.map_toArray, List.map_cons, List.map_nil, hs, hx, List.length_nil, hr]
    exact hK _ _ (hfin _ w hrow ⟨rfl, rfl, rfl, Nat.le_refl _, fun _ _ _ => rfl⟩ (.inl rfl))
  | some ad =>
    by_cases hz : ps = []
    · subst hz
      exact wpList_append_own_at w hgd s x 50 ho g 71 i0 _ 2 32 Tryd.underlying50 hi hz0 hz1 hz2 rfl (by decide) _ 0 [] hs hrow ad 0 c [] hx rfl (fun j u hj => by simp at hj) (fun u hu => by simp at hu) (by unfold maxLen; omega) (by omega) (by omega) fun v' w' h1 h2 _ h4 => hfin v' w' (by simpa [prsV] using h1) h2 h4
    · have hpos : 0 < ps.length := by
        cases ps with
        | nil => exact absurd rfl hz
        | cons p ps => simp
      obtain ⟨b, off, hb, _⟩ := hA 0 hpos
      injection hb with hb
      subst hb
      have hcells : ∀ (k : Nat) (hk : k < ps.length), w.cell? ⟨b, off + k * 2, none⟩ = some (.string (strOf ps[k].name)) ∧ w.cell? ⟨b, off + k * 2 + 1, none⟩ = some (.string (strOf ps[k].type)) := fun k hk => by
        obtain ⟨b', off', e, _, _, _, c0, c1⟩ := hA k hk
        cases e
        exact ⟨c0, c1⟩
      exact wpList_append_own_at w hgd s x 50 ho g 71 i0 _ 2 32 Tryd.underlying50 hi hz0 hz1 hz2 rfl (by decide) _ 0 [] hs hrow ⟨b, off, none⟩ ps.length c (prsV ps) hx (prsV_len ps) (prsV_cell hcells) (prsV_one ps) (by unfold maxLen; omega) (by omega) (by omega) fun v' w' h1 h2 _ h4 => hfin v' w' h1 h2 h4

end Go.Proofs.YtmbkjabjcphkbaaDoor
end
section
/- Declarations in the call's own memory; append of one. -/
set_option linter.unusedVariables false
namespace Go.Proofs.YtmbkjabjcphkbaaDoor
open Go.RowKit

structure Vd where
  p : Value
  b : Value
def dcCells (s : Dc) (f : Vd) : List Value := [.int .i64 s.kind, .int .i64 s.pl, .int .i64 s.num, .string (strOf s.name), .string (strOf s.type), f.p, f.b]
def dcsV : List Dc → List Vd → List Value
  | s :: ss, f :: fs => dcCells s f ++ dcsV ss fs
  | _, _ => []
theorem dcsV_app : ∀ {ss : List Dc} {fs : List Vd} (s : Dc) (u : Vd), ss.length = fs.length → dcsV (ss ++ [s]) (fs ++ [u]) = dcsV ss fs ++ dcCells s u
  | [], [], s, u, _ => by simp [dcsV]
  | d :: ss, f :: fs, s, u, h => by
    show dcCells d f ++ dcsV (ss ++ [s]) (fs ++ [u]) = _
    rw [dcsV_app s u (by simpa using h)]
    simp [dcsV]
theorem dcsV_get : ∀ {ss : List Dc} {fs : List Vd} (h : ss.length = fs.length) (k : Nat) (hk : k < ss.length) (i : Nat) (hi : i < 7), (dcsV ss fs)[k * 7 + i]? = (dcCells ss[k] (fs[k]'(by omega)))[i]?
  | s :: ss, f :: fs, h, 0, hk, i, hi => by
    show (dcCells s f ++ dcsV ss fs)[0 * 7 + i]? = _
    rw [Nat.zero_mul, Nat.zero_add, List.getElem?_append_left (by simpa [dcCells] using hi)]
    rfl
  | s :: ss, f :: fs, h, k + 1, hk, i, hi => by
    show (dcCells s f ++ dcsV ss fs)[(k + 1) * 7 + i]? = _
    rw [show (k + 1) * 7 + i = 7 + (k * 7 + i) from by omega, List.getElem?_append_right (by simp [dcCells])]
    rw [show 7 + (k * 7 + i) - (dcCells s f).length = k * 7 + i from by simp [dcCells]]
    exact dcsV_get (by simpa using h) k (by simpa using hk) i hi
theorem dcCells_one (s : Dc) (u : Vd) (h1 : u.p.oneCell' = true) (h2 : u.b.oneCell' = true) : ∀ x ∈ dcCells s u, x.oneCell' = true := by
  intro x hx
  simp [dcCells] at hx
  rcases hx with rfl | rfl | rfl | rfl | rfl | rfl | rfl
  · rfl
  · rfl
  · rfl
  · rfl
  · rfl
  · exact h1
  · exact h2
theorem PrsIn.one {w : World} {S : Nat → Prop} {ps : List Pr} {v : Value} (h : PrsIn w S ps v) : v.oneCell' = true := by
  obtain ⟨A, c, rfl, _⟩ := h; rfl

/-- the three lists of a statement -/
def DcIn (w : World) (S : Nat → Prop) (s : Dc) (f : Vd) : Prop := s.name.length ≤ 140737488355328 ∧ s.type.length ≤ 140737488355328 ∧ PrsIn w S s.pairs f.p ∧ IsSms w S s.body f.b
theorem DcIn.keep {w w' : World} {S S' : Nat → Prop} {s : Dc} {f : Vd} (h : DcIn w S s f) (hw : ∀ b, S b → w'.heap[b]? = w.heap[b]?) (hS : ∀ b, S b → S' b) : DcIn w' S' s f :=
  ⟨h.1, h.2.1, h.2.2.1.keep hw hS, h.2.2.2.keep hw hS⟩
/-- the slice v of the statements ss lies in the call's own memory from base on -/
def OwnDc (w : World) (base : Nat) (v : Value) (ss : List Dc) : Prop :=
  ∃ fs : List Vd, ss.length = fs.length ∧ w.ownsRow base 53 7 v ss.length (dcsV ss fs) ∧
    ∀ (k : Nat) (hk : k < ss.length) (hk' : k < fs.length), DcIn w (fun b => base ≤ b ∧ b < w.heap.size ∧ v.ownBlock ≠ some b) ss[k] fs[k]
theorem OwnDc.lt {w : World} {base : Nat} {v : Value} {ss : List Dc} (h : OwnDc w base v ss) {b : Nat} (hb : v.ownBlock = some b) : base ≤ b ∧ b < w.heap.size := by
  obtain ⟨fs, _, hown, _⟩ := h
  exact hown.lt b hb
theorem OwnDc.dcs {w : World} {base : Nat} {v : Value} {ss : List Dc} (h : OwnDc w base v ss) : DcsIn w (fun b => base ≤ b ∧ b < w.heap.size) ss v := by
  obtain ⟨fs, hl, hown, hin⟩ := h
  have hlt := hown.lt
  have hcell : ∀ (g : Nat), v.ownBlock = some g → ∀ (j : Nat) (u : Value), (dcsV ss fs)[j]? = some u → w.cell? ⟨g, 0 + j, none⟩ = some u := fun g hg j u hu => by
    have := hown.cells hg j u hu
    rw [add_pl] at this
    exact this
  rcases hown.2 with ⟨rfl, h2⟩ | ⟨g, cap, cur, rfl, hbg, hg, hc1, hc2, _⟩
  · have he : ss = [] := List.eq_nil_of_length_eq_zero h2
    subst he
    exact ⟨none, 0, (fun _ => undef), (fun _ => undef), rfl, Nat.le_refl _, by omega, (fun k hk => absurd hk (by simp)), (fun k hk => absurd hk (by simp)), (fun k hk => absurd hk (by simp))⟩
  · have hgd : ∀ (k : Nat) (hk' : k < fs.length), (fs[k]?.getD ⟨undef, undef⟩) = fs[k] := fun k hk' => by rw [List.getElem?_eq_getElem hk']; rfl
    refine ⟨_, cap, (fun k => (fs[k]?.getD ⟨undef, undef⟩).p), (fun k => (fs[k]?.getD ⟨undef, undef⟩).b), rfl, hc1, by unfold maxLen at hc2; omega, (fun k hk => ?_), (fun k hk => ?_), (fun k hk => ?_)⟩
    · have hk' : k < fs.length := by omega
      obtain ⟨a1, a2, _⟩ := hin k hk hk'
      refine ⟨g, 0, rfl, ⟨hbg, (hlt g rfl).2⟩, a1, a2, ?_, ?_, ?_, ?_, ?_, ?_, ?_⟩
      · exact hcell g rfl (k * 7) _ (by have := dcsV_get hl k hk 0 (by omega); rw [Nat.add_zero] at this; rw [this]; rfl)
      · exact hcell g rfl (k * 7 + 1) _ (by rw [dcsV_get hl k hk 1 (by omega)]; rfl)
      · exact hcell g rfl (k * 7 + 2) _ (by rw [dcsV_get hl k hk 2 (by omega)]; rfl)
      · exact hcell g rfl (k * 7 + 3) _ (by rw [dcsV_get hl k hk 3 (by omega)]; rfl)
      · exact hcell g rfl (k * 7 + 4) _ (by rw [dcsV_get hl k hk 4 (by omega)]; rfl)
      · dsimp only; rw [hgd k hk']; exact hcell g rfl (k * 7 + 5) _ (by rw [dcsV_get hl k hk 5 (by omega)]; rfl)
      · dsimp only; rw [hgd k hk']; exact hcell g rfl (k * 7 + 6) _ (by rw [dcsV_get hl k hk 6 (by omega)]; rfl)
    · have hk' : k < fs.length := by omega
      show PrsIn w _ ss[k].pairs (fs[k]?.getD ⟨undef, undef⟩).p
      rw [hgd k hk']
      exact (hin k hk hk').2.2.1.keep (fun _ _ => rfl) (fun b hb => ⟨hb.1, hb.2.1⟩)
    · have hk' : k < fs.length := by omega
      show IsSms w _ ss[k].body (fs[k]?.getD ⟨undef, undef⟩).b
      rw [hgd k hk']
      exact (hin k hk hk').2.2.2.keep (fun _ _ => rfl) (fun b hb => ⟨hb.1, hb.2.1⟩)
theorem OwnDc.below {w w' : World} {base : Nat} {v : Value} {ss : List Dc} (h : OwnDc w base v ss) (hb : Below w.heap.size w w') : OwnDc w' base v ss := by
  obtain ⟨fs, hl, hown, hin⟩ := h
  refine ⟨fs, hl, ?_, fun k hk hk' => (hin k hk hk').keep (fun b hb2 => hb.block b hb2.2.1) (fun b hb2 => ⟨hb2.1, Nat.lt_of_lt_of_le hb2.2.1 hb.size, hb2.2.2⟩)⟩
  rcases hown with ⟨h1, h2 | ⟨g, cap, cur, hv, hbg, hg, h3⟩⟩
  · exact ⟨h1, .inl h2⟩
  · refine ⟨h1, .inr ⟨g, cap, cur, hv, hbg, ?_, h3⟩⟩
    have hlt : g < w.heap.size := by
      rcases Nat.lt_or_ge g w.heap.size with hlt | hge
      · exact hlt
      · rw [Array.getElem?_eq_none hge] at hg; cases hg
    exact (hb.block g hlt).trans hg
theorem OwnDc.none (w : World) (base : Nat) : OwnDc w base (.slice none 0 0) [] :=
  ⟨[], rfl, World.ownsRow_nil _ _ _ _, fun k hk => absurd hk (by simp)⟩
/-- a store into a block that none of it uses -/
theorem OwnDc.set_ {w : World} {base : Nat} {v : Value} {ss : List Dc} (h : OwnDc w base v ss) {p : Addr} (hp : p.block < base) (u : Value) : OwnDc (w.setCell p u) base v ss := by
  have hbl := h
  obtain ⟨fs, hl, hown, hin⟩ := h
  refine ⟨fs, hl, ?_, fun k hk hk' => (hin k hk hk').keep (fun b hb2 => Below.heap_setCell _ _ _ b (by omega)) (fun b hb2 => ⟨hb2.1, by simpa using hb2.2.1, hb2.2.2⟩)⟩
  rcases hown with ⟨h1, h2 | ⟨g, cap, cur, hv, hbg, hg, h3⟩⟩
  · exact ⟨h1, .inl h2⟩
  · exact ⟨h1, .inr ⟨g, cap, cur, hv, hbg, (Below.heap_setCell _ _ _ g (by omega)).trans hg, h3⟩⟩
theorem OwnDc.setNew {w : World} {base : Nat} {v : Value} {ss : List Dc} {B : Nat} (h : OwnDc w base v ss) (hB : w.heap.size ≤ B) {w' : World} (hs : w.heap.size ≤ w'.heap.size) (hk : ∀ b, b < w.heap.size → w'.heap[b]? = w.heap[b]?) : OwnDc w' base v ss := by
  obtain ⟨fs, hl, hown, hin⟩ := h
  refine ⟨fs, hl, ?_, fun k hk1 hk' => (hin k hk1 hk').keep (fun b hb2 => hk b hb2.2.1) (fun b hb2 => ⟨hb2.1, by omega, hb2.2.2⟩)⟩
  rcases hown with ⟨h1, h2 | ⟨g, cap, cur, hv, hbg, hg, h3⟩⟩
  · exact ⟨h1, .inl h2⟩
  · refine ⟨h1, .inr ⟨g, cap, cur, hv, hbg, ?_, h3⟩⟩
    have hlt : g < w.heap.size := by
      rcases Nat.lt_or_ge g w.heap.size with hlt | hge
      · exact hlt
      · rw [Array.getElem?_eq_none hge] at hg; cases hg
    exact (hk g hlt).trans hg

theorem info_dc : (Tryd.prog.info? 53).map (fun i => (i.zero, i.size, i.bytes)) = some (some (.agg #[.int .i64 0, .int .i64 0, .int .i64 0, .string ⟨#[]⟩, .string ⟨#[]⟩, .slice none 0 0, .slice none 0 0]), 7, 104) := by kernel_rfl

/-- append of one statement whose lists lie apart -/
theorem wpList_append_dc {ops : Array Oper} {rest : List Oper} {o : Oper} {a : Act} {w : World} {Q : Exit → Act → World → Prop} (hgd : o.guard = none) (s x : Operand)
    (ho : o.op = .call { callee := .builtin .append, args := #[s, x], argTypes := #[37, 37] })
    (base : Nat) (v : Value) (ss : List Dc) (hs : a.eval s = v) (hown : OwnDc w base v ss) (ad : Addr) (c : Nat) (e : Dc) (u : Vd) (hx : a.eval x = .slice (some ad) 1 c)
    (hnews : ∀ j y, (dcCells e u)[j]? = some y → w.cell? (ad.add j) = some y) (hu : DcIn w (fun b => base ≤ b ∧ b < w.heap.size ∧ v.ownBlock ≠ some b) e u) (hb : ss.length ≤ 1000000) (hbase : base ≤ w.heap.size)
    (h : ∀ v' w', OwnDc w' base v' (ss ++ [e]) → w.grownBy w' v.ownBlock → wpList Tryd.prog ops Q rest (a.put o.dst v') w') : wpList Tryd.prog ops Q (o :: rest) a w := by
  obtain ⟨i0, hi, hz0, hz1, hz2⟩ := info_parts info_dc
  obtain ⟨fs, hl, hrow, hin⟩ := hown
  refine wpList_append_lies _ hgd s x 37 ho base 53 i0 _ 7 104 Tryd.underlying37 hi hz0 hz1 hz2 rfl (by decide) v ss.length (dcsV ss fs) hs hrow ad 1 c (dcCells e u) hx rfl hnews (dcCells_one e u hu.2.2.1.one hu.2.2.2.one)
    (by omega) (by unfold maxLen; omega) (by omega) hbase w.heap.size rfl fun g cap w' hown' hgr hat hlt => h _ w' ?_ hgr
  have hkeep : ∀ b, (base ≤ b ∧ b < w.heap.size ∧ v.ownBlock ≠ some b) → w'.heap[b]? = w.heap[b]? := fun b hb => hgr.block b hb.2.1 (fun e => hb.2.2 e.symm)
  have hS : ∀ b, (base ≤ b ∧ b < w.heap.size ∧ v.ownBlock ≠ some b) → (base ≤ b ∧ b < w'.heap.size ∧ (Value.slice (some ⟨g, 0, none⟩) (ss.length + 1) cap).ownBlock ≠ some b) := fun b hb => by
    have hsz := hgr.size
    refine ⟨hb.1, by omega, fun e => ?_⟩
    have e' : g = b := by simpa [Value.ownBlock] using e
    rcases hat with hat | hat
    · exact hb.2.2 (by rw [hat, e'])
    · omega
  refine ⟨fs ++ [u], by simp [hl], ?_, fun k hk hk' => ?_⟩
  · rw [List.length_append, dcsV_app e u hl]
    exact hown'
  · by_cases hke : k < ss.length
    · have hkf : k < fs.length := by omega
      rw [List.getElem_append_left hke, List.getElem_append_left hkf]
      exact (hin k hke hkf).keep hkeep hS
    · have hk0 : k = ss.length := by simp at hk; omega
      subst hk0
      have e1 : (ss ++ [e])[ss.length] = e := by simp
      have e2 : (fs ++ [u])[ss.length]'hk' = u := by
        rw [List.getElem_append_right (by omega)]
        simp [hl]
      rw [e1, e2]
      exact hu.keep hkeep hS


/-- a declaration down to so many levels -/
def copyD (d : Dc) (deep : Int) : Dc := ⟨d.kind, d.pl, d.num, d.name, d.type, d.pairs, copyB d.body deep⟩
def smallD (N : Nat) (d : Dc) : Prop := d.pairs.length ≤ N ∧ d.body.length ≤ N ∧ smallSs N d.body

end Go.Proofs.YtmbkjabjcphkbaaDoor
end
section
/- The walk of CopyProgram. -/
set_option linter.unusedVariables false
namespace Go.Proofs.YtmbkjabjcphkbaaDoor
open Go.RowKit

def DcsPost (w : World) (ds : List Dc) (e : Ending) (w' : World) : Prop :=
  ∃ v, e = .returned (.agg #[v]) ∧ DcsIn w' (fun b => w.heap.size ≤ b ∧ b < w'.heap.size) ds v ∧ Below w.heap.size w w'

/-- block g is a program -/
def OneBlk (w : World) (g : Nat) (u : Value) : Prop := w.heap[g]? = some (.cells #[u] 39 (0, 0))
section
variable {w w' : World} {g B : Nat} {u : Value}
theorem OneBlk.new (w : World) (u : Value) : OneBlk (w.alloc (.cells #[u] 39)) w.heap.size u := heap_alloc_new w _
theorem OneBlk.below (h : OneBlk w g u) (hb : Below B w w') (hg : g < B) : OneBlk w' g u := (hb.block g hg).trans h
theorem OneBlk.c0 (h : OneBlk w g u) : w.cell? ⟨g, 0, none⟩ = some u := by rw [cell_of_row w g 0 _ _ (0, 0) h]; rfl
theorem OneBlk.fr (h : OneBlk w g u) (j : Nat) : w.frozen? ⟨g, j, none⟩ = false := frozen_of_row w g j _ _ h
theorem OneBlk.set (h : OneBlk w g u) (x : Value) : OneBlk (w.setCell ⟨g, 0, none⟩ x) g x := by
  unfold OneBlk at h ⊢
  simp [World.setCell, Array.getElem?_modify, h]
end

set_option maxHeartbeats 4000000 in
set_option maxRecDepth 100000 in
theorem copyp_any {w0 : World} {B : Nat} {ds : List Dc} {v : Value} (h : DcsIn w0 (· < B) ds v) (hsm : ∀ (k : Nat) (hk : k < ds.length), smallD 1000000 ds[k]) (hn6 : ds.length ≤ 1000000) (deep : Int) (w : World) (hb : Below B w0 w) (hB : B ≤ w.heap.size) (hd0 : -100000 ≤ deep) (hd : deep ≤ 100000) :
    Calls Tryd.prog 21 #[.agg #[v], .int .i64 deep] w (DcsPost w (ds.map (copyD · deep))) := by
  obtain ⟨A, c, fp, fb, rfl, hc, hM, hA, hp, hbd⟩ := h
  obtain ⟨ns, hns⟩ : ∃ ns, ns = ds.length := ⟨_, rfl⟩
  rw [← hns] at hc hn6 ⊢
  have HNS := Lib.hid hns
  have HP := Lib.hid hp
  have HBD := Lib.hid hbd
  have HHA := Lib.hid hA
  have HB0 := Lib.hid hb
  have HSM := Lib.hid hsm
  clear hns hp hbd hA hb hsm
  go_enter Tryd.func21, Tryd.ntmps21
  go_wp2
  obtain ⟨X, hX⟩ : ∃ X : World, X = ((w.alloc (.cells #[.slice A ns c] 39)).alloc (.cells #[.slice none 0 0] 39)).alloc (.cells #[.slice none 0 0] 39) := ⟨_, rfl⟩
  obtain ⟨g, hg⟩ : ∃ g, g = w.heap.size := ⟨_, rfl⟩
  have hx1 : OneBlk X g (.slice A ns c) := by
    rw [hX, hg]
    exact ((OneBlk.new w _).below ((Below.refl _ _).alloc (Nat.le_refl _) _) (by simp)).below ((Below.refl _ _).alloc (Nat.le_refl _) _) (by simp; omega)
  have hx2 : OneBlk X (g + 1) (.slice none 0 0) := by
    rw [hX, hg]
    have h := (OneBlk.new (w.alloc (.cells #[.slice A ns c] 39)) (.slice none 0 0)).below ((Below.refl _ _).alloc (Nat.le_refl _) (.cells #[.slice none 0 0] 39)) (by simp)
    rw [show (w.alloc (.cells #[.slice A ns c] 39)).heap.size = w.heap.size + 1 from by simp] at h
    exact h
  have hx3 : OneBlk X (g + 2) (.slice none 0 0) := by
    rw [hX, hg]
    have h := OneBlk.new ((w.alloc (.cells #[.slice A ns c] 39)).alloc (.cells #[.slice none 0 0] 39)) (.slice none 0 0)
    rw [show ((w.alloc (.cells #[.slice A ns c] 39)).alloc (.cells #[.slice none 0 0] 39)).heap.size = w.heap.size + 2 from by simp] at h
    exact h
  have hxs : X.heap.size = g + 3 := by rw [hX, hg]; simp
  have hxb : Below g w X := by rw [hX, hg]; exact (((Below.refl _ w).alloc (Nat.le_refl _) _).alloc (by simp) _).alloc (by simp; omega) _
  rw [← hX, ← hg]
  have HX1 := Lib.hid hx1
  have HX2 := Lib.hid hx2
  have HX3 := Lib.hid hx3
  have HXS := Lib.hid hxs
  have HXB := Lib.hid hxb
  have HG := Lib.hid hg
  clear hX hx1 hx2 hx3 hxs hxb hg
  go_loopw [6] (fun i wr => ∃ (j : Nat) (u : Value), j ≤ ns ∧ i = .int .i64 j ∧ Hid (OneBlk wr (g + 2) u) ∧ Hid (OwnDc wr (g + 3) u ((ds.take j).map (copyD · deep))) ∧ Hid (Below (g + 2) X wr) ∧ g + 3 ≤ wr.heap.size) (fun i _ => ns - (intOf i).toNat)
  case atStart => exact ⟨0, _, Nat.zero_le _, rfl, HX3, Lib.hid (OwnDc.none _ _), Lib.hid (Below.refl _ _), by have := HXS.out; omega⟩
  case round =>
    obtain ⟨wo, rfl⟩ : ∃ wo : World, wo = wr := ⟨_, rfl⟩
    obtain ⟨j, u, hj, rfl, HU, HO, HBL, hws⟩ := hrel
    have hb1 := HX1.out.below HBL.out (by omega)
    have k0 := hb1.c0
    by_cases hlt : j < ns
    · have hje : j < ds.length := by rw [← HNS.out]; exact hlt
      obtain ⟨b, off, rfl, hbB, hnm, hty, p0, p1, p2, p3, p4, p5, p6⟩ := HHA.out j hje
      have hprs := HP.out j hje
      have hsms := HBD.out j hje
      obtain ⟨t1, t2, t3⟩ := HSM.out j hje
      obtain ⟨A1, c1, hf1, hc1, hM1, -⟩ := HP.out j hje
      obtain ⟨A2, c2, hf2, hc2, hM2⟩ := hsms.slice
      have hcb := copyb_any hsms t3 t2
      have hct : (ds.take (j + 1)).map (copyD · deep) = (ds.take j).map (copyD · deep) ++ [copyD ds[j] deep] := by
        rw [List.take_add_one, List.getElem?_eq_getElem hje, Option.toList_some, List.map_append, List.map_singleton]
      rw [hf1] at p5 hprs
      rw [hf2] at p6 hcb
      obtain ⟨Y, hY⟩ : ∃ Y, Y = ds[j] := ⟨_, rfl⟩
      rw [← hY] at p0 p1 p2 p3 p4 p5 p6 hnm hty hc1 hc2 hcb hct t1 hprs
      have hbw : Below B w0 wo := HB0.out.trans ((HXB.out.trans (HBL.out.mono (by omega))).mono (by rw [HG.out]; exact hB))
      have hsx : B ≤ wo.heap.size := by have := HG.out; omega
      have r0 := (hbw.cell (p := ⟨b, off + j * 7, none⟩) hbB).trans p0
      have r1 := (hbw.cell (p := ⟨b, off + j * 7 + 1, none⟩) hbB).trans p1
      have r2 := (hbw.cell (p := ⟨b, off + j * 7 + 2, none⟩) hbB).trans p2
      have r3 := (hbw.cell (p := ⟨b, off + j * 7 + 3, none⟩) hbB).trans p3
      have r4 := (hbw.cell (p := ⟨b, off + j * 7 + 4, none⟩) hbB).trans p4
      have r5 := (hbw.cell (p := ⟨b, off + j * 7 + 5, none⟩) hbB).trans p5
      have r6 := (hbw.cell (p := ⟨b, off + j * 7 + 6, none⟩) hbB).trans p6
      obtain ⟨yk, hyk⟩ : ∃ x, x = Y.kind := ⟨_, rfl⟩
      obtain ⟨yp, hyp⟩ : ∃ x, x = Y.pl := ⟨_, rfl⟩
      obtain ⟨yu, hyu⟩ : ∃ x, x = Y.num := ⟨_, rfl⟩
      obtain ⟨n1, hn1'⟩ : ∃ n1, n1 = Y.pairs.length := ⟨_, rfl⟩
      obtain ⟨m2, hm2⟩ : ∃ m2, m2 = Y.body.length := ⟨_, rfl⟩
      obtain ⟨sn, hsn⟩ : ∃ sn, sn = strOf Y.name := ⟨_, rfl⟩
      obtain ⟨st, hst⟩ : ∃ st, st = strOf Y.type := ⟨_, rfl⟩
      have hcells : ∀ p q, dcCells (copyD Y deep) ⟨p, q⟩ = [.int .i64 yk, .int .i64 yp, .int .i64 yu, .string sn, .string st, p, q] := fun p q => by rw [hyk, hyp, hyu, hsn, hst]; rfl
      rw [← hyk] at r0
      rw [← hyp] at r1
      rw [← hyu] at r2
      rw [← hsn] at r3
      rw [← hst] at r4
      rw [← hn1'] at r5 hc1 hprs t1
      rw [← hm2] at r6 hc2 hcb
      obtain ⟨X1, hX1⟩ : ∃ X1 : World, X1 = wo.alloc (.cells #[.int .i64 yk, .int .i64 yp, .int .i64 yu, .string sn, .string st, .slice A1 n1 c1, .slice A2 m2 c2] 53) := ⟨_, rfl⟩
      obtain ⟨X2, hX2⟩ : ∃ X2 : World, X2 = X1.alloc (.cells #[] 71) := ⟨_, rfl⟩
      have hx1s : X1.heap.size = wo.heap.size + 1 := by rw [hX1]; simp
      have hx2s : X2.heap.size = wo.heap.size + 2 := by rw [hX2]; simp; omega
      have hx1 : DcBlk X1 wo.heap.size yk yp yu sn st (.slice A1 n1 c1) (.slice A2 m2 c2) := by rw [hX1]; exact DcBlk.new wo _ _ _ _ _ _ _
      have hx12 : Below X1.heap.size X1 X2 := by rw [hX2]; exact (Below.refl _ X1).alloc (Nat.le_refl _) _
      have hx2 := hx1.below hx12 (by omega)
      have hx1b : Below wo.heap.size wo X1 := by rw [hX1]; exact (Below.refl _ wo).alloc (Nat.le_refl _) _
      have hx2b : Below wo.heap.size wo X2 := hx1b.trans (hx12.mono (by omega))
      have hp2 : PrsIn X2 (· < B) Y.pairs (.slice A1 n1 c1) := hprs.keep (fun b hb => (hbw.trans (hx2b.mono hsx)).block b hb) (fun _ hb => hb)
      have hg2 : X2.heap[wo.heap.size + 1]? = some (.cells #[] 71 (0, 0)) := by rw [hX2, ← hx1s]; exact heap_alloc_new X1 _
      have y0 := hx2.c0
      have y5 := hx2.c5
      rw [hX2, hX1] at y0 y5
      have y0' := hx1.c0
      have y5' := hx1.c5
      rw [hX1] at y0' y5'
      have hsz2 : wo.heap.size + 1 < X2.heap.size := by omega
      have hx2c := hx2
      rw [hX2, hX1] at hp2 hg2 hsz2 hx2
      have HSZ2 := Lib.hid hsz2
      have HX1E := Lib.hid hX1
      have HX2E := Lib.hid hX2
      have HX2S := Lib.hid hx2s
      have HX2B := Lib.hid hx2b
      have HXK := Lib.hid hx2
      have HXKC := Lib.hid hx2c
      have HP2 := Lib.hid hp2
      have HG2 := Lib.hid hg2
      have HCB := Lib.hid hcb
      have HCT := Lib.hid hct
      have HCL := Lib.hid hcells
      have HNM := Lib.hid hnm
      have HTY := Lib.hid hty
      have HT1 := Lib.hid t1
      have HN1 := Lib.hid hn1'
      clear hX1 hX2 hx1s hx2s hx2b hx2 hx2c hsz2 hx1 hx1b hx12 hp2 hg2 hcb hct hcells hprs hsms t1 t2 t3 hnm hty hyk hyp hyu hn1' hm2 hsn hst hY hf1 hf2 p0 p1 p2 p3 p4 p5 p6 HHA HP HBD HSM
      go_wp2_with (first
        | (at_builtin; go_loud (refine wpList_append_prs rfl _ _ rfl (wo.heap.size + 1) rfl HG2.out HSZ2.out (· < B) Y.pairs (.slice A1 n1 c1) rfl HP2.out (by rw [← HN1.out]; exact HT1.out) ?_; go_loud (intro v3 w3 hp3 hgr3; obtain ⟨A3, n3, c3, rfl⟩ : ∃ A n c, v3 = .slice A n c := (by obtain ⟨A, c, h, _⟩ := hp3; exact ⟨A, _, c, h⟩); have e3 : DcBlk w3 wo.heap.size yk yp yu sn st (.slice A1 n1 c1) (.slice A2 m2 c2) := (hgr3.block wo.heap.size (by have := HSZ2.out; omega) (by simp)).trans HXK.out; have f0 := e3.c0; have f5 := e3.c5; have f6 := e3.c6; have f55 := e3.fr 5))))
      rw [← HX1E.out, ← HX2E.out] at hgr3 hp3
      obtain ⟨X4, hX4⟩ : ∃ X4 : World, X4 = w3.setCell ⟨wo.heap.size, 5, none⟩ (.slice A3 n3 c3) := ⟨_, rfl⟩
      rw [← hX4]
      have hs2 := HX2S.out
      have hgs := hgr3.size
      have hw3b : Below wo.heap.size wo w3 := HX2B.out.grown hgr3 (by omega) (fun q hq => by
        have : wo.heap.size + 1 = q := by simpa using hq
        omega)
      have x4s : X4.heap.size = w3.heap.size := by rw [hX4]; simp
      have e4 : DcBlk X4 wo.heap.size yk yp yu sn st (.slice A3 n3 c3) (.slice A2 m2 c2) := by rw [hX4]; exact e3.set5 _
      have hx4b : Below wo.heap.size wo X4 := by rw [hX4]; exact hw3b.setCell (Nat.le_refl _) _
      have hp4 : PrsIn X4 (fun b => wo.heap.size + 1 ≤ b ∧ b < X4.heap.size) Y.pairs (.slice A3 n3 c3) := by
        refine hp3.keep (fun b hb => ?_) (fun b hb => ⟨hb.1, by rw [x4s]; exact hb.2.1⟩)
        rw [hX4]
        exact Below.heap_setCell _ _ _ b (show b ≠ wo.heap.size by omega)
      refine (HCB.out deep X4 (hbw.trans (hx4b.mono hsx)) (by omega) hd0 hd).mono ?_
      rintro e w5 ⟨v5, rfl, hi5, hb5⟩
      obtain ⟨A5, n5, c5, hN5, rfl⟩ : ∃ A n c, IsSms w5 (fun b => X4.heap.size ≤ b ∧ b < w5.heap.size) (copyB Y.body deep) (.slice A n c) ∧ v5 = .slice A n c := by
        cases hi5 with
        | mk es A c f1 f2 f3 q1 q2 q3 q4 q5 q6 => exact ⟨_, _, _, .mk _ A c f1 f2 f3 q1 q2 q3 q4 q5 q6, rfl⟩
      have hs5 := hb5.size
      have e5 := e4.below hb5 (by omega)
      have hp5 : PrsIn w5 (fun b => wo.heap.size + 1 ≤ b ∧ b < w5.heap.size) Y.pairs (.slice A3 n3 c3) := hp4.keep (fun b hb => hb5.block b hb.2) (fun b hb => ⟨hb.1, by omega⟩)
      have hw5b : Below wo.heap.size wo w5 := hx4b.trans (hb5.mono (by omega))
      obtain ⟨X6, hX6⟩ : ∃ X6 : World, X6 = w5.setCell ⟨wo.heap.size, 6, none⟩ (.slice A5 n5 c5) := ⟨_, rfl⟩
      have x6s : X6.heap.size = w5.heap.size := by rw [hX6]; simp
      have hx6b : Below wo.heap.size wo X6 := by rw [hX6]; exact hw5b.setCell (Nat.le_refl _) _
      have hk6 : ∀ b, wo.heap.size + 1 ≤ b ∧ b < w5.heap.size → X6.heap[b]? = w5.heap[b]? := fun b hb => by
        rw [hX6]
        exact Below.heap_setCell _ _ _ b (show b ≠ wo.heap.size by omega)
      obtain ⟨X7, hX7⟩ : ∃ X7 : World, X7 = X6.alloc (.cells #[.int .i64 yk, .int .i64 yp, .int .i64 yu, .string sn, .string st, .slice A3 n3 c3, .slice A5 n5 c5] 53) := ⟨_, rfl⟩
      have x7s : X7.heap.size = w5.heap.size + 1 := by rw [hX7]; simp; omega
      have hx67 : Below X6.heap.size X6 X7 := by rw [hX7]; exact (Below.refl _ X6).alloc (Nat.le_refl _) _
      have hx7b : Below wo.heap.size wo X7 := hx6b.trans (hx67.mono (by omega))
      have hk7 : ∀ b, wo.heap.size + 1 ≤ b ∧ b < w5.heap.size → X7.heap[b]? = w5.heap[b]? := fun b hb => (hx67.block b (by omega)).trans (hk6 b hb)
      have ho7 : OwnDc X7 (g + 3) u ((ds.take j).map (copyD · deep)) := HO.out.below hx7b
      have hnew : ∀ q y, (dcCells (copyD Y deep) ⟨.slice A3 n3 c3, .slice A5 n5 c5⟩)[q]? = some y → X7.cell? ((⟨w5.heap.size, 0, none⟩ : Addr).add q) = some y := fun q y hq => by
        rw [HCL.out] at hq
        rw [hX7, ← x6s, add_pl, Nat.zero_add, cell_of_row _ _ q _ _ (0, 0) (heap_alloc_new X6 _)]
        simpa using hq
      have hS7 : ∀ b, wo.heap.size + 1 ≤ b ∧ b < w5.heap.size → g + 3 ≤ b ∧ b < X7.heap.size ∧ u.ownBlock ≠ some b := fun b hb => ⟨by omega, by omega, fun e => by
        have := (HO.out.lt e).2
        omega⟩
      have hun : DcIn X7 (fun b => g + 3 ≤ b ∧ b < X7.heap.size ∧ u.ownBlock ≠ some b) (copyD Y deep) ⟨.slice A3 n3 c3, .slice A5 n5 c5⟩ :=
        ⟨HNM.out, HTY.out, hp5.keep hk7 hS7, hN5.keep (fun b hb => hk7 b ⟨by omega, hb.2⟩) (fun b hb => hS7 b ⟨by omega, hb.2⟩)⟩
      have hu6 : OneBlk X6 (g + 2) u := HU.out.below hx6b (by omega)
      have hu7 : OneBlk X7 (g + 2) u := HU.out.below hx7b (by omega)
      have hx7g : Below (g + 2) X X7 := HBL.out.trans (hx7b.mono (by omega))
      have hg7 : g + 3 < X7.heap.size := by omega
      have hlen : ((ds.take j).map (copyD · deep)).length ≤ 1000000 := by
        rw [List.length_map, List.length_take]
        omega
      have o6 := hu6.c0
      rw [hX6] at o6
      rw [hX7, hX6] at ho7 hnew hun hu7 hx7g hg7
      have HO7 := Lib.hid ho7
      have HNEW := Lib.hid hnew
      have HUN := Lib.hid hun
      have HU7 := Lib.hid hu7
      have HX7G := Lib.hid hx7g
      have HG7 := Lib.hid hg7
      have HLEN := Lib.hid hlen
      clear f0 f5 f6 f55
      have f0 := e5.c0
      have f1 := e5.c1
      have f2 := e5.c2
      have f3 := e5.c3
      have f4 := e5.c4
      have f5 := e5.c5
      have f6 := e5.c6
      have f66 := e5.fr 6
      clear ho7 hnew hun hu6 hu7 hx7g hg7 hlen hS7 hk7 hx7b hx67 x7s hX7 hk6 hx6b x6s hX6 hw5b hp5 e5 hs5 hN5 hi5 hb5 hp4 hx4b e4 x4s hw3b hgs hX4 hgr3 hp3 e3 X7 X6 X4 r0 r1 r2 r3 r4 r5 r6 y0 y5 y0' y5'
      go_wp2_with (first
        | (at_builtin; go_loud (refine wpList_append_dc rfl _ _ rfl (g + 3) u ((ds.take j).map (copyD · deep)) rfl HO7.out ⟨w5.heap.size, 0, none⟩ 1 (copyD Y deep) ⟨.slice A3 n3 c3, .slice A5 n5 c5⟩ rfl HNEW.out HUN.out HLEN.out (by have := HG7.out; omega) ?_; go_loud (intro v8 w8 hown8 hgr8; obtain ⟨A8, n8, c8, rfl⟩ : ∃ A n c, v8 = .slice A n c := (by obtain ⟨A, c, _, _, h, _⟩ := hown8.dcs; exact ⟨A, _, c, h⟩); have e8 : OneBlk w8 (g + 2) u := (hgr8.block (g + 2) (by have := HG7.out; omega) (fun e => by have := (HO.out.lt e.symm).1; omega)).trans HU7.out; have l0 := e8.c0; have l1 := e8.fr 0))))
      go_roundw
      case rel =>
        have hb8 := (HX7G.out.grown hgr8 (by have := HG7.out; omega) (fun q hq => by have := (HO.out.lt hq).1; omega)).setCell (p := ⟨g + 2, 0, none⟩) (Nat.le_refl _) (.slice A8 n8 c8)
        exact ⟨j + 1, _, by omega, by go_num, Lib.hid (e8.set _), Lib.hid (by rw [HCT.out]; exact hown8.set_ (by simp) _), Lib.hid hb8, by have h1 := hgr8.size; have h2 := HG7.out; simp; omega⟩
      case measure => simp [intOf]; omega
    · have hall : (ds.take j).map (copyD · deep) = ds.map (copyD · deep) := by rw [List.take_of_length_le (by rw [← HNS.out]; omega)]
      rw [hall] at HO
      obtain ⟨A5, n5, c5, rfl⟩ : ∃ A n c, u = .slice A n c := by
        obtain ⟨A, c, _, _, h, _⟩ := HO.out.dcs
        exact ⟨A, _, c, h⟩
      have hb2 := HX2.out.below HBL.out (by omega)
      have m0 := hb2.c0
      have m1 := hb2.fr 0
      have n0 := HU.out.c0
      clear hall HHA HP HBD HSM
      go_wp2
      have hfin : DcsIn (wo.setCell ⟨g + 1, 0, none⟩ (.slice A5 n5 c5)) (fun b => w.heap.size ≤ b ∧ b < (wo.setCell ⟨g + 1, 0, none⟩ (.slice A5 n5 c5)).heap.size) (ds.map (copyD · deep)) (.slice A5 n5 c5) := by
        refine HO.out.dcs.keep (fun b hb => ?_) (fun b hb => ⟨by have := HG.out; omega, by simpa using hb.2⟩)
        exact Below.heap_setCell _ _ _ b (show b ≠ g + 1 by omega)
      have hbel : Below w.heap.size w (wo.setCell ⟨g + 1, 0, none⟩ (.slice A5 n5 c5)) := by
        rw [← HG.out]
        exact (HXB.out.trans (HBL.out.mono (by omega))).setCell (by simp) _
      exact bodyPost_ret (v := .agg #[.slice A5 n5 c5]) (by simp [results, Tryd.results21, go_sem, m0]) rfl ⟨_, rfl, hfin, hbel⟩

end Go.Proofs.YtmbkjabjcphkbaaDoor
end
section
/- What weighs no more than the limit is small, and its copy is itself. -/
set_option linter.unusedVariables false
namespace Go.Proofs.YtmbkjabjcphkbaaDoor
open Go.RowKit

mutual
theorem weigh_pos : ∀ (e : Ex) (m d : Int), 0 ≤ m → 1 ≤ weigh e m d
  | .mk k p n s xs, m, d, h => by
    rw [weigh]
    split
    · omega
    · have := weighs_mono xs (1 + (s.length : Int)) m d
      omega
theorem weighs_mono : ∀ (es : List Ex) (n m d : Int), n ≤ weighs es n m d
  | [], n, m, d => by rw [weighs]; exact Int.le_refl _
  | e :: es, n, m, d => by
    rw [weighs]
    split
    · rename_i hle
      have h1 := weigh_pos e (m - n) (d - 1) (by omega)
      have h2 := weighs_mono es (n + weigh e (m - n) (d - 1)) m d
      omega
    · exact Int.le_refl _
end
mutual
theorem weigh_light : ∀ (e : Ex) (m d cd : Int) (N : Nat), weigh e m d ≤ m → 0 ≤ d → d ≤ cd → m ≤ (N : Int) → smallE N e ∧ copyE e cd = e
  | .mk k p n s xs, m, d, cd, N, h, h0, h1, h2 => by
    rw [weigh] at h
    rw [smallE, copyE]
    split at h
    · omega
    · rename_i hne
      have hm := weighs_mono xs (1 + (s.length : Int)) m d
      cases xs with
      | nil => exact ⟨⟨by omega, by simp, by rw [smallEs]; trivial⟩, by rw [copyEs]⟩
      | cons x xs =>
        have hd : 0 < d := by
          rcases Int.lt_or_le 0 d with h3 | h3
          · exact h3
          · exact absurd ⟨by omega, by simp⟩ hne
        obtain ⟨a1, a2, a3⟩ := weighs_light (x :: xs) (1 + (s.length : Int)) m d cd N h (by omega) hd h1 h2
        exact ⟨⟨by omega, by omega, a2⟩, by rw [a3]⟩
theorem weighs_light : ∀ (es : List Ex) (n m d cd : Int) (N : Nat), weighs es n m d ≤ m → 0 ≤ n → 0 < d → d ≤ cd → m ≤ (N : Int) → n + (es.length : Int) ≤ m ∧ smallEs N es ∧ copyEs es cd = es
  | [], n, m, d, cd, N, h, h0, h1, h2, h3 => by
    rw [weighs] at h
    exact ⟨by simpa using h, by rw [smallEs]; trivial, by rw [copyEs]⟩
  | e :: es, n, m, d, cd, N, h, h0, h1, h2, h3 => by
    rw [weighs] at h
    split at h
    · rename_i hle
      have p1 := weigh_pos e (m - n) (d - 1) (by omega)
      have p2 := weighs_mono es (n + weigh e (m - n) (d - 1)) m d
      obtain ⟨a1, a2⟩ := weigh_light e (m - n) (d - 1) (cd - 1) N (by omega) (by omega) (by omega) (by omega)
      obtain ⟨b1, b2, b3⟩ := weighs_light es _ m d cd N h (by omega) h1 h2 h3
      refine ⟨by simp; omega, by rw [smallEs]; exact ⟨a1, b2⟩, by rw [copyEs, if_pos (by omega), a2, b3]⟩
    · omega
end
/-- the expressions of a statement: their copies are made one by one, at the depth itself -/
theorem weighs_map : ∀ (es : List Ex) (n m d cd : Int) (N : Nat), weighs es n m d ≤ m → 0 ≤ n → 0 < d → d ≤ cd + 1 → m ≤ (N : Int) → n + (es.length : Int) ≤ m ∧ smallEs N es ∧ es.map (copyE · cd) = es
  | [], n, m, d, cd, N, h, h0, h1, h2, h3 => by
    rw [weighs] at h
    exact ⟨by simpa using h, by rw [smallEs]; trivial, rfl⟩
  | e :: es, n, m, d, cd, N, h, h0, h1, h2, h3 => by
    rw [weighs] at h
    split at h
    · rename_i hle
      have p1 := weigh_pos e (m - n) (d - 1) (by omega)
      have p2 := weighs_mono es (n + weigh e (m - n) (d - 1)) m d
      obtain ⟨a1, a2⟩ := weigh_light e (m - n) (d - 1) cd N (by omega) (by omega) (by omega) (by omega)
      obtain ⟨b1, b2, b3⟩ := weighs_map es _ m d cd N h (by omega) h1 h2 h3
      refine ⟨by simp; omega, by rw [smallEs]; exact ⟨a1, b2⟩, by rw [List.map_cons, a2, b3]⟩
    · omega

end Go.Proofs.YtmbkjabjcphkbaaDoor
end
section
/- Statements and declarations that weigh no more than the limit are small, and their copies are themselves. -/
set_option linter.unusedVariables false
namespace Go.Proofs.YtmbkjabjcphkbaaDoor
open Go.RowKit

theorem goS_three (s : Sm) (n most deep : Int) : ∃ n2 n3, n2 = weighs s.exprs (n + (1 + (s.name.length : Int) + (s.type.length : Int))) most 61 ∧
    n3 = (if n2 ≤ most then n2 + weighB s.body (most - n2) (deep - 1) else n2) ∧ goS s n most deep = if n3 ≤ most then n3 + weighB s.els (most - n3) (deep - 1) else n3 :=
  ⟨_, _, rfl, rfl, goS_eq s n most deep rfl rfl⟩
theorem weighB_nonneg_of {ss : List Sm} {m d : Int} (hm : 0 ≤ m) (h : 0 ≤ goB ss 0 m d) : 0 ≤ weighB ss m d := by
  unfold weighB
  split
  · omega
  · exact h
mutual
theorem goS_mono : ∀ (s : Sm) (n m d : Int), n + 1 ≤ goS s n m d
  | .mk k p nm ty ex bd el, n, m, d => by
    obtain ⟨n2, n3, h2, h3, h4⟩ := goS_three (.mk k p nm ty ex bd el) n m d
    rw [h4]
    have a2 : n + 1 ≤ n2 := by
      rw [h2]
      have := weighs_mono ex (n + (1 + (nm.length : Int) + (ty.length : Int))) m 61
      show n + 1 ≤ weighs ex (n + (1 + (nm.length : Int) + (ty.length : Int))) m 61
      omega
    have a3 : n2 ≤ n3 := by
      rw [h3]
      split
      · have := weighB_nonneg_of (ss := bd) (m := m - n2) (d := d - 1) (by omega) (goB_mono bd 0 (m - n2) (d - 1))
        show n2 ≤ n2 + weighB bd (m - n2) (d - 1)
        omega
      · exact Int.le_refl _
    split
    · have := weighB_nonneg_of (ss := el) (m := m - n3) (d := d - 1) (by omega) (goB_mono el 0 (m - n3) (d - 1))
      show n + 1 ≤ n3 + weighB el (m - n3) (d - 1)
      omega
    · omega
theorem goB_mono : ∀ (ss : List Sm) (n m d : Int), n ≤ goB ss n m d
  | [], n, m, d => by rw [goB]; exact Int.le_refl _
  | s :: ss, n, m, d => by
    rw [goB]
    split
    · have h1 := goS_mono s n m d
      have h2 := goB_mono ss (goS s n m d) m d
      omega
    · exact Int.le_refl _
end
theorem weighB_nonneg (ss : List Sm) (m d : Int) (hm : 0 ≤ m) : 0 ≤ weighB ss m d := weighB_nonneg_of hm (goB_mono ss 0 m d)
mutual
theorem goS_light : ∀ (s : Sm) (n m d cd : Int) (N : Nat), goS s n m d ≤ m → 0 ≤ n → 0 < d → d + 60 ≤ cd → m ≤ (N : Int) → smallS N s ∧ copyS s cd = s
  | .mk k p nm ty ex bd el, n, m, d, cd, N, h, h0, hd, h1, h2 => by
    obtain ⟨n2, n3, e2, e3, e4⟩ := goS_three (.mk k p nm ty ex bd el) n m d
    rw [e4] at h
    have b3 : n3 ≤ m := by
      by_cases h3 : n3 ≤ m
      · exact h3
      · rw [if_neg h3] at h; exact h
    rw [if_pos b3] at h
    have b2 : n2 ≤ m := by
      by_cases h3 : n2 ≤ m
      · exact h3
      · rw [if_neg h3] at e3; omega
    rw [if_pos b2] at e3
    have b0 : n + (1 + (nm.length : Int) + (ty.length : Int)) ≤ n2 := by
      rw [e2]
      exact weighs_mono ex (n + (1 + (nm.length : Int) + (ty.length : Int))) m 61
    have b2' : weighs ex (n + (1 + (nm.length : Int) + (ty.length : Int))) m 61 ≤ m := by
      have e : n2 = weighs ex (n + (1 + (nm.length : Int) + (ty.length : Int))) m 61 := e2
      omega
    obtain ⟨c1, c2, c3⟩ := weighs_map ex _ m 61 cd N b2' (by omega) (by omega) (by omega) h2
    have w1 := weighB_nonneg bd (m - n2) (d - 1) (by omega)
    have w2 := weighB_nonneg el (m - n3) (d - 1) (by omega)
    have e3' : n3 = n2 + weighB bd (m - n2) (d - 1) := e3
    have h' : n3 + weighB el (m - n3) (d - 1) ≤ m := h
    obtain ⟨d1, d2, d3⟩ := weighB_light bd (m - n2) (d - 1) (cd - 1) N (by omega) (by omega) (by omega) (by omega)
    obtain ⟨f1, f2, f3⟩ := weighB_light el (m - n3) (d - 1) (cd - 1) N (by omega) (by omega) (by omega) (by omega)
    rw [smallS, copyS]
    exact ⟨⟨by omega, by omega, by omega, c2, by omega, d2, by omega, f2⟩, by rw [c3, d3, f3]⟩
theorem goB_light : ∀ (ss : List Sm) (n m d cd : Int) (N : Nat), goB ss n m d ≤ m → 0 ≤ n → 0 < d → d + 60 ≤ cd → m ≤ (N : Int) → n + (ss.length : Int) ≤ m ∧ smallSs N ss ∧ copyB ss cd = ss
  | [], n, m, d, cd, N, h, h0, hd, h1, h2 => by
    rw [goB] at h
    exact ⟨by simpa using h, by rw [smallSs]; trivial, by rw [copyB]⟩
  | s :: ss, n, m, d, cd, N, h, h0, hd, h1, h2 => by
    rw [goB] at h
    split at h
    · have p1 := goS_mono s n m d
      have p2 := goB_mono ss (goS s n m d) m d
      obtain ⟨a1, a2⟩ := goS_light s n m d cd N (by omega) h0 hd h1 h2
      obtain ⟨b1, b2, b3⟩ := goB_light ss _ m d cd N h (by omega) hd h1 h2
      refine ⟨by simp; omega, by rw [smallSs]; exact ⟨a1, b2⟩, by rw [copyB, if_pos (by omega), a2, b3]⟩
    · omega
theorem weighB_light : ∀ (ss : List Sm) (m d cd : Int) (N : Nat), weighB ss m d ≤ m → 0 ≤ d → d + 60 ≤ cd → m ≤ (N : Int) → (ss.length : Int) ≤ m ∧ smallSs N ss ∧ copyB ss cd = ss
  | [], m, d, cd, N, h, hd, h1, h2 => by
    unfold weighB at h
    rw [if_neg (by simp), goB] at h
    exact ⟨by simpa using h, by rw [smallSs]; trivial, by rw [copyB]⟩
  | s :: ss, m, d, cd, N, h, hd, h1, h2 => by
    unfold weighB at h
    split at h
    · omega
    · rename_i hne
      have hd' : 0 < d := by
        rcases Int.lt_or_le 0 d with h3 | h3
        · exact h3
        · exact absurd ⟨by omega, by simp⟩ hne
      rw [goB] at h
      split at h
      · have p1 := goS_mono s 0 m d
        have p2 := goB_mono ss (goS s 0 m d) m d
        obtain ⟨a1, a2⟩ := goS_light s 0 m d cd N (by omega) (Int.le_refl _) hd' h1 h2
        obtain ⟨b1, b2, b3⟩ := goB_light ss _ m d cd N h (by omega) hd' h1 h2
        refine ⟨by simp; omega, by rw [smallSs]; exact ⟨a1, b2⟩, by rw [copyB, if_pos (by omega), a2, b3]⟩
      · omega
end

end Go.Proofs.YtmbkjabjcphkbaaDoor
end
section
/- Programs that weigh no more than the limit are small, and their copies are themselves. -/
set_option linter.unusedVariables false
namespace Go.Proofs.YtmbkjabjcphkbaaDoor
open Go.RowKit

theorem goP_mono : ∀ (ps : List Pr) (n m : Int), n ≤ goP ps n m
  | [], n, m => by rw [goP]; exact Int.le_refl _
  | p :: ps, n, m => by
    rw [goP]
    split
    · have := goP_mono ps (n + (1 + (p.name.length : Int) + (p.type.length : Int))) m
      omega
    · exact Int.le_refl _
theorem goP_light : ∀ (ps : List Pr) (n m : Int), goP ps n m ≤ m → n + (ps.length : Int) ≤ m
  | [], n, m, h => by rw [goP] at h; simpa using h
  | p :: ps, n, m, h => by
    rw [goP] at h
    split at h
    · have := goP_light ps _ m h
      simp
      omega
    · omega
theorem goD_two (s : Dc) (n most deep : Int) : ∃ n2, n2 = goP s.pairs (n + (1 + (s.name.length : Int) + (s.type.length : Int))) most ∧ goD s n most deep = if n2 ≤ most then n2 + weighB s.body (most - n2) deep else n2 := ⟨_, rfl, rfl⟩
theorem goD_mono (s : Dc) (n m d : Int) : n + 1 ≤ goD s n m d := by
  obtain ⟨n2, e2, e4⟩ := goD_two s n m d
  have h := goP_mono s.pairs (n + (1 + (s.name.length : Int) + (s.type.length : Int))) m
  rw [e4]
  split
  · have := weighB_nonneg s.body (m - n2) d (by omega)
    omega
  · omega
theorem goDs_mono : ∀ (ds : List Dc) (n m d : Int), n ≤ goDs ds n m d
  | [], n, m, d => by rw [goDs]; exact Int.le_refl _
  | s :: ss, n, m, d => by
    rw [goDs]
    split
    · have h1 := goD_mono s n m d
      have h2 := goDs_mono ss (goD s n m d) m d
      omega
    · exact Int.le_refl _
/-- a small declaration that is its own copy -/
theorem goD_light (s : Dc) (n m d cd : Int) (N : Nat) (h : goD s n m d ≤ m) (h0 : 0 ≤ n) (hd : 0 ≤ d) (h1 : d + 60 ≤ cd) (h2 : m ≤ (N : Int)) : smallD N s ∧ copyD s cd = s := by
  obtain ⟨n2, e2, e4⟩ := goD_two s n m d
  have hp := goP_mono s.pairs (n + (1 + (s.name.length : Int) + (s.type.length : Int))) m
  rw [e4] at h
  have b2 : n2 ≤ m := by
    by_cases h3 : n2 ≤ m
    · exact h3
    · rw [if_neg h3] at h; exact h
  rw [if_pos b2] at h
  have hl := goP_light s.pairs _ m (by rw [← e2]; exact b2)
  have hw := weighB_nonneg s.body (m - n2) d (by omega)
  obtain ⟨d1, d2, d3⟩ := weighB_light s.body (m - n2) d cd N (by omega) hd h1 (by omega)
  refine ⟨⟨by omega, by omega, d2⟩, ?_⟩
  unfold copyD
  rw [d3]
theorem goDs_light : ∀ (ds : List Dc) (n m d cd : Int) (N : Nat), goDs ds n m d ≤ m → 0 ≤ n → 0 ≤ d → d + 60 ≤ cd → m ≤ (N : Int) → n + (ds.length : Int) ≤ m ∧ (∀ (k : Nat) (hk : k < ds.length), smallD N ds[k]) ∧ ds.map (copyD · cd) = ds
  | [], n, m, d, cd, N, h, h0, hd, h1, h2 => by
    rw [goDs] at h
    exact ⟨by simpa using h, fun k hk => absurd hk (by simp), rfl⟩
  | s :: ss, n, m, d, cd, N, h, h0, hd, h1, h2 => by
    rw [goDs] at h
    split at h
    · have p1 := goD_mono s n m d
      have p2 := goDs_mono ss (goD s n m d) m d
      obtain ⟨a1, a2⟩ := goD_light s n m d cd N (by omega) h0 hd h1 h2
      obtain ⟨b1, b2, b3⟩ := goDs_light ss _ m d cd N h (by omega) hd h1 h2
      refine ⟨by simp; omega, fun k hk => ?_, by rw [List.map_cons, a2, b3]⟩
      cases k with
      | zero => exact a1
      | succ k => exact b2 k (by simpa using hk)
    · omega
theorem goDs_nonneg (ds : List Dc) (m d : Int) : 0 ≤ goDs ds 0 m d := goDs_mono ds 0 m d

end Go.Proofs.YtmbkjabjcphkbaaDoor
end
section
/- A program that weighs no more than the limit: what the laws need of it. -/
set_option linter.unusedVariables false
namespace Go.Proofs.YtmbkjabjcphkbaaDoor
open Go.RowKit

theorem goP_names : ∀ (ps : List Pr) (n m : Int), goP ps n m ≤ m → 0 ≤ n → ∀ p ∈ ps, (p.name.length : Int) ≤ m ∧ (p.type.length : Int) ≤ m
  | [], n, m, h, h0, p, hp => by cases hp
  | q :: ps, n, m, h, h0, p, hp => by
    rw [goP] at h
    split at h
    · have hm := goP_mono ps (n + (1 + (q.name.length : Int) + (q.type.length : Int))) m
      rcases List.mem_cons.1 hp with rfl | hp
      · omega
      · exact goP_names ps _ m h (by omega) p hp
    · omega
theorem goD_names (s : Dc) (n m d : Int) (h : goD s n m d ≤ m) (h0 : 0 ≤ n) (hd : 0 ≤ d) (hm : m ≤ 40000) : smallDN s := by
  obtain ⟨n2, e2, e4⟩ := goD_two s n m d
  have hp := goP_mono s.pairs (n + (1 + (s.name.length : Int) + (s.type.length : Int))) m
  rw [e4] at h
  have b2 : n2 ≤ m := by
    by_cases h3 : n2 ≤ m
    · exact h3
    · rw [if_neg h3] at h; exact h
  rw [if_pos b2] at h
  have hw := weighB_nonneg s.body (m - n2) d (by omega)
  obtain ⟨d1, d2, d3⟩ := weighB_light s.body (m - n2) d (d + 60) 40000 (by omega) hd (by omega) (by omega)
  have hn := goP_names s.pairs _ m (by rw [← e2]; exact b2) (by omega)
  exact ⟨by omega, by omega, fun p hp => by obtain ⟨a, b⟩ := hn p hp; omega, d2⟩
theorem goDs_names : ∀ (ds : List Dc) (n m d : Int), goDs ds n m d ≤ m → 0 ≤ n → 0 ≤ d → m ≤ 40000 → ∀ (k : Nat) (hk : k < ds.length), smallDN ds[k]
  | [], n, m, d, h, h0, hd, hm, k, hk => absurd hk (by simp)
  | s :: ss, n, m, d, h, h0, hd, hm, k, hk => by
    rw [goDs] at h
    split at h
    · have p1 := goD_mono s n m d
      have p2 := goDs_mono ss (goD s n m d) m d
      cases k with
      | zero => exact goD_names s n m d (by omega) h0 hd hm
      | succ k => exact goDs_names ss _ m d h (by omega) hd hm k (by simpa using hk)
    · omega
theorem smallD_up {N M : Nat} {d : Dc} (h : smallD N d) (hN : N ≤ M) (hs : smallSs M d.body) : smallD M d := ⟨by have := h.1; omega, by have := h.2.1; omega, hs⟩
structure Light (ds : List Dc) : Prop where
  nm : ∀ (k : Nat) (hk : k < ds.length), smallDN ds[k]
  sm : ∀ (k : Nat) (hk : k < ds.length), smallD 1000000 ds[k]
  ln : ds.length ≤ 40000
  cp : ds.map (copyD · 300) = ds
theorem light_of {ds : List Dc} (h : goDs ds 0 40000 60 ≤ 40000) : Light ds := by
  obtain ⟨a, b, c⟩ := goDs_light ds 0 40000 60 300 1000000 h (by omega) (by omega) (by omega) (by omega)
  exact ⟨goDs_names ds 0 40000 60 h (by omega) (by omega) (by omega), b, by omega, c⟩
/-- a copy of a light program -/
theorem copy_light {w : World} {ds : List Dc} {v : Value} (h : DcsIn w (· < w.heap.size) ds v) (hl : Light ds) (w1 : World) (hb : Below w.heap.size w w1) (hs : w.heap.size ≤ w1.heap.size) :
    Calls Tryd.prog 21 #[.agg #[v], .int .i64 300] w1 fun e w2 => ∃ v', e = .returned (.agg #[v']) ∧ DcsIn w2 (fun b => w1.heap.size ≤ b ∧ b < w2.heap.size) ds v' ∧ Below w1.heap.size w1 w2 := by
  have hc := copyp_any h hl.sm (by have := hl.ln; omega) 300 w1 hb hs (by omega) (by omega)
  rw [hl.cp] at hc
  exact hc
theorem fin_cases (C : Ts) : fin C = ([], 23) ∨ ∃ T, lim C = some T ∧ fits T ∧ fin C = (joinT T, 0) := by
  unfold fin
  cases hC : lim C with
  | none => exact .inl rfl
  | some T =>
    refine .inr ⟨T, rfl, ?_, rfl⟩
    cases C with
    | none => cases hC
    | some U => unfold lim at hC; simp only at hC; split at hC <;> simp_all

end Go.Proofs.YtmbkjabjcphkbaaDoor
end
section
/- Texts of tokens: how the answers of Tokens for several texts hang together. -/
namespace Go.Proofs.YtmbkjabjcphkbaaDoor

theorem take_run (p : UInt8 → Bool) (l : List UInt8) : ∃ t r, l = t ++ r ∧ t.length = runOf p l ∧ (∀ c ∈ t, p c = true) ∧ ∀ c, r.head? = some c → p c = false := by
  induction l with
  | nil => exact ⟨[], [], rfl, rfl, by simp, by simp⟩
  | cons c l ih =>
    by_cases hc : p c = true
    · obtain ⟨t, r, h1, h2, h3, h4⟩ := ih
      refine ⟨c :: t, r, by rw [h1]; rfl, ?_, ?_, h4⟩
      · unfold runOf at h2 ⊢
        rw [List.takeWhile_cons, if_pos hc, List.length_cons, List.length_cons, h2]
      · intro d hd
        rcases List.mem_cons.1 hd with e | e
        · rw [e]; exact hc
        · exact h3 d e
    · refine ⟨[], c :: l, rfl, ?_, by simp, ?_⟩
      · unfold runOf
        rw [List.takeWhile_cons, if_neg hc]
      · intro d hd
        have e : c = d := by simpa using hd
        rw [← e]; simpa using hc
theorem run_app {p : UInt8 → Bool} {t r : List UInt8} (h : ∀ c ∈ t, p c = true) (hs : ∀ c, r.head? = some c → p c = false) : runOf p (t ++ r) = t.length := by
  unfold runOf
  rw [List.takeWhile_append_of_pos h]
  cases r with
  | nil => simp
  | cons c r =>
    have hc : ¬ p c = true := by simp [hs c rfl]
    rw [List.takeWhile_cons, if_neg hc]
    simp

/-- a token's bytes, with the byte behind it -/
def Shape (k : Nat) (t : List UInt8) (h : Option UInt8) : Prop :=
  (k = (if isWord t then 4 else 1) ∧ (∃ c u, t = c :: u ∧ small c = true) ∧ (∀ c ∈ t, tailB c = true) ∧ ∀ c, h = some c → tailB c = false) ∨
  (k = 2 ∧ t ≠ [] ∧ (∀ c ∈ t, digit c = true) ∧ ∀ c, h = some c → digit c = false) ∨
  (k = 3 ∧ (t = [60, 61] ∨ t = [61, 61] ∨ t = [33, 61])) ∨
  (k = 3 ∧ ∃ c, t = [c] ∧ signsL.contains c = true ∧ (h = some 61 → c ≠ 60 ∧ c ≠ 61 ∧ c ≠ 33))

theorem fName {l : List UInt8} (h : 0 < nameLen l) : firstOf l = (if isWord (l.take (nameLen l)) then 4 else 1, nameLen l) := by
  unfold firstOf; rw [if_pos h]
theorem fDigit {l : List UInt8} (h : nameLen l = 0) (h1 : 0 < runOf digit l) : firstOf l = (2, runOf digit l) := by
  unfold firstOf; rw [if_neg (by omega), if_pos h1]
theorem fSign {l : List UInt8} (h : nameLen l = 0) (h1 : runOf digit l = 0) (h2 : 0 < signLen l) : firstOf l = (3, signLen l) := by
  unfold firstOf; rw [if_neg (by omega), if_neg (by omega), if_pos h2]
theorem fNone {l : List UInt8} (h : nameLen l = 0) (h1 : runOf digit l = 0) (h2 : signLen l = 0) : firstOf l = (0, 0) := by
  unfold firstOf; rw [if_neg (by omega), if_neg (by omega), if_neg (by omega)]

theorem signs_plain : ∀ c ∈ signsL, small c = false ∧ digit c = false ∧ 32 < c.toNat := by decide
theorem sign_plain {c : UInt8} (h : signsL.contains c = true) : small c = false ∧ digit c = false ∧ 32 < c.toNat := signs_plain c (List.contains_iff_mem.1 h)
theorem digit_small {c : UInt8} (h : digit c = true) : small c = false := by
  unfold digit at h; unfold small
  simp only [Bool.and_eq_true, decide_eq_true_eq] at h
  rw [Bool.eq_false_iff]
  simp only [ne_eq, Bool.and_eq_true, decide_eq_true_eq]
  omega
theorem nameLen_no {c : UInt8} {r : List UInt8} (h : small c = false) : nameLen (c :: r) = 0 := by rw [nameLen_cons, if_neg (by simp [h])]
theorem runD_no {c : UInt8} {r : List UInt8} (h : digit c = false) : runOf digit (c :: r) = 0 := by
  unfold runOf; rw [List.takeWhile_cons, if_neg (by simp [h])]; rfl
theorem signLen_cons' (c : UInt8) (r : List UInt8) : signLen (c :: r) = if twoB (c :: r) then 2 else if signsL.contains c then 1 else 0 := rfl
theorem two_cons (c : UInt8) (r : List UInt8) : twoB (c :: r) = true ↔ r.head? = some 61 ∧ (c = 60 ∨ c = 61 ∨ c = 33) := by
  unfold twoB
  cases r with
  | nil => simp [List.isPrefixOf]
  | cons d r =>
    simp only [List.isPrefixOf, Bool.and_true, Bool.or_eq_true, Bool.and_eq_true, beq_iff_eq, List.head?_cons, Option.some.injEq]
    constructor
    · rintro ((⟨h1, h2⟩ | ⟨h1, h2⟩) | ⟨h1, h2⟩)
      · exact ⟨h2.symm, .inl h1.symm⟩
      · exact ⟨h2.symm, .inr (.inl h1.symm)⟩
      · exact ⟨h2.symm, .inr (.inr h1.symm)⟩
    · rintro ⟨h2, h1 | h1 | h1⟩
      · exact .inl (.inl ⟨h1.symm, h2.symm⟩)
      · exact .inl (.inr ⟨h1.symm, h2.symm⟩)
      · exact .inr ⟨h1.symm, h2.symm⟩

theorem shape_first {k : Nat} {t r : List UInt8} (h : Shape k t r.head?) : firstOf (t ++ r) = (k, t.length) := by
  rcases h with ⟨hk, ⟨c, u, hc, hs⟩, ha, hst⟩ | ⟨hk, hne, ha, hst⟩ | ⟨hk, ht⟩ | ⟨hk, c, ht, hc, hs⟩
  · have hn : nameLen (t ++ r) = t.length := by
      rw [← run_app ha hst, hc]
      show nameLen (c :: (u ++ r)) = _
      rw [nameLen_cons, if_pos hs]
      rfl
    have h0 : 0 < nameLen (t ++ r) := by rw [hn, hc]; simp
    rw [fName h0, hn, List.take_left, hk]
  · have hd : runOf digit (t ++ r) = t.length := run_app ha hst
    obtain ⟨c, u, rfl⟩ := List.exists_cons_of_ne_nil hne
    have h1 := digit_small (ha c (by simp))
    have hn0 : nameLen (c :: u ++ r) = 0 := nameLen_no (r := u ++ r) h1
    have hr0 : 0 < runOf digit (c :: u ++ r) := by rw [hd]; simp
    rw [fDigit hn0 hr0, hd, hk]
  · rcases ht with rfl | rfl | rfl
    all_goals
      rw [hk]
      show firstOf (_ :: 61 :: r) = (3, 2)
      rw [fSign (nameLen_no (by decide)) (runD_no (by decide)) (by rw [signLen_cons', if_pos ((two_cons _ _).2 ⟨rfl, by decide⟩)]; omega), signLen_cons', if_pos ((two_cons _ _).2 ⟨rfl, by decide⟩)]
  · subst ht
    obtain ⟨h1, h2, _⟩ := sign_plain hc
    have ht : ¬ twoB (c :: r) = true := by
      rw [two_cons]
      rintro ⟨h3, h4⟩
      obtain ⟨a, b, d⟩ := hs h3
      rcases h4 with e | e | e
      · exact a e
      · exact b e
      · exact d e
    have hl : signLen (c :: r) = 1 := by rw [signLen_cons', if_neg ht, if_pos hc]
    show firstOf (c :: r) = (k, 1)
    rw [fSign (nameLen_no h1) (runD_no h2) (by omega), hl, hk]

theorem first_shape {l : List UInt8} {k z : Nat} (h : firstOf l = (k, z)) (hz : z ≠ 0) : ∃ t r, l = t ++ r ∧ t.length = z ∧ Shape k t r.head? := by
  by_cases hn : 0 < nameLen l
  · rw [fName hn] at h
    cases l with
    | nil => simp [nameLen] at hn
    | cons c l =>
      by_cases hc : small c = true
      · rw [nameLen_cons, if_pos hc] at h
        obtain ⟨t, r, h1, h2, h3, h4⟩ := take_run tailB (c :: l)
        simp only [Prod.mk.injEq] at h
        obtain ⟨hk, hzz⟩ := h
        have ht : (c :: l).take (runOf tailB (c :: l)) = t := by rw [← h2, h1]; exact List.take_left
        rw [ht] at hk
        refine ⟨t, r, h1, by omega, .inl ⟨hk.symm, ?_, h3, h4⟩⟩
        cases t with
        | nil => simp at h2; omega
        | cons d u =>
          have e : c = d := by simpa using (List.cons.inj h1).1
          exact ⟨d, u, rfl, e ▸ hc⟩
      · rw [nameLen_cons, if_neg hc] at hn; omega
  · by_cases hd : 0 < runOf digit l
    · rw [fDigit (by omega) hd] at h
      simp only [Prod.mk.injEq] at h
      obtain ⟨hk, hzz⟩ := h
      obtain ⟨t, r, h1, h2, h3, h4⟩ := take_run digit l
      refine ⟨t, r, h1, by omega, .inr (.inl ⟨hk.symm, ?_, h3, h4⟩)⟩
      intro e; rw [e] at h2; simp at h2; omega
    · by_cases hs : 0 < signLen l
      · rw [fSign (by omega) (by omega) hs] at h
        simp only [Prod.mk.injEq] at h
        obtain ⟨hk, hzz⟩ := h
        cases l with
        | nil => simp [signLen, twoB, List.isPrefixOf] at hs
        | cons c r =>
          by_cases ht : twoB (c :: r) = true
          · rw [signLen_cons', if_pos ht] at hzz
            obtain ⟨h1, h2⟩ := (two_cons c r).1 ht
            cases r with
            | nil => simp at h1
            | cons d r =>
              have e : d = 61 := by simpa using h1
              subst e
              refine ⟨[c, 61], r, rfl, hzz, .inr (.inr (.inl ⟨hk.symm, ?_⟩))⟩
              rcases h2 with rfl | rfl | rfl
              · exact .inl rfl
              · exact .inr (.inl rfl)
              · exact .inr (.inr rfl)
          · rw [signLen_cons', if_neg ht] at hzz
            by_cases hc : signsL.contains c = true
            · rw [if_pos hc] at hzz
              refine ⟨[c], r, rfl, hzz, .inr (.inr (.inr ⟨hk.symm, c, rfl, hc, ?_⟩))⟩
              intro h61
              refine ⟨?_, ?_, ?_⟩ <;> (intro e; exact ht ((two_cons c r).2 ⟨h61, by simp [e]⟩))
            · rw [if_neg hc] at hzz; omega
      · rw [fNone (by omega) (by omega) (by omega)] at h
        simp only [Prod.mk.injEq] at h
        omega

theorem first_none {c : UInt8} {r : List UInt8} : (firstOf (c :: r)).2 = 0 ↔ small c = false ∧ digit c = false ∧ signsL.contains c = false := by
  constructor
  · intro h
    have hn : nameLen (c :: r) = 0 := by
      rcases Nat.eq_zero_or_pos (nameLen (c :: r)) with h0 | h0
      · exact h0
      · rw [fName h0] at h; exact h
    have hs : small c = false := by
      cases hc : small c
      · rfl
      · rw [nameLen_cons, if_pos hc] at hn
        unfold runOf at hn
        rw [List.takeWhile_cons, if_pos (by simp [tailB, hc])] at hn
        simp at hn
    have hd0 : runOf digit (c :: r) = 0 := by
      rcases Nat.eq_zero_or_pos (runOf digit (c :: r)) with h0 | h0
      · exact h0
      · rw [fDigit hn h0] at h; exact h
    have hd : digit c = false := by
      cases hc : digit c
      · rfl
      · unfold runOf at hd0
        rw [List.takeWhile_cons, if_pos hc] at hd0
        simp at hd0
    have hg : signLen (c :: r) = 0 := by
      rcases Nat.eq_zero_or_pos (signLen (c :: r)) with h0 | h0
      · exact h0
      · rw [fSign hn hd0 h0] at h; exact h
    refine ⟨hs, hd, ?_⟩
    rw [signLen_cons'] at hg
    split at hg
    · omega
    · split at hg
      · omega
      · rename_i h2; simpa using h2
  · rintro ⟨h1, h2, h3⟩
    have ht : ¬ twoB (c :: r) = true := by
      rw [two_cons]
      rintro ⟨_, e | e | e⟩ <;> (rw [e] at h3; revert h3; decide)
    rw [fNone (nameLen_no h1) (runD_no h2) (by rw [signLen_cons', if_neg ht, if_neg (by rw [h3]; simp)])]

theorem shape_bytes {k : Nat} {t : List UInt8} {h : Option UInt8} (hs : Shape k t h) : t ≠ [] ∧ ∀ c ∈ t, 32 < c.toNat := by
  rcases hs with ⟨hk, ⟨c, u, hc, hsm⟩, ha, hst⟩ | ⟨hk, hne, ha, hst⟩ | ⟨hk, ht⟩ | ⟨hk, c, ht, hc, hst⟩
  · refine ⟨by rw [hc]; simp, fun d hd => ?_⟩
    have := ha d hd
    simp only [tailB, small, digit, Bool.or_eq_true, Bool.and_eq_true, decide_eq_true_eq, beq_iff_eq] at this
    omega
  · refine ⟨hne, fun d hd => ?_⟩
    have := ha d hd
    simp only [digit, Bool.and_eq_true, decide_eq_true_eq] at this
    omega
  · rcases ht with rfl | rfl | rfl <;> exact ⟨by simp, by decide⟩
  · subst ht
    refine ⟨by simp, fun d hd => ?_⟩
    rw [List.mem_singleton.1 hd]
    exact (sign_plain hc).2.2
theorem blank_not {c : UInt8} (h : 32 < c.toNat) : blankB c = false := by
  unfold blankB
  rw [Bool.or_eq_false_iff, beq_eq_false_iff_ne, beq_eq_false_iff_ne]
  omega
theorem blank_of {c : UInt8} (h : blankB c = true) : tailB c = false ∧ digit c = false ∧ c ≠ 61 := by
  have h' : c.toNat = 32 ∨ c.toNat = 10 := by simpa [blankB] using h
  refine ⟨?_, ?_, ?_⟩
  · rw [Bool.eq_false_iff]
    intro ht
    simp only [tailB, small, digit, Bool.or_eq_true, Bool.and_eq_true, decide_eq_true_eq, beq_iff_eq] at ht
    omega
  · rw [Bool.eq_false_iff]
    intro ht
    simp only [digit, Bool.and_eq_true, decide_eq_true_eq] at ht
    omega
  · rintro rfl
    revert h'; decide
/-- with nothing behind it, or a blank, a token is the same -/
theorem shape_soft {k : Nat} {t : List UInt8} {h h' : Option UInt8} (hs : Shape k t h) (hb : ∀ c, h' = some c → blankB c = true) : Shape k t h' := by
  rcases hs with ⟨hk, hc, ha, hst⟩ | ⟨hk, hne, ha, hst⟩ | ⟨hk, ht⟩ | ⟨hk, c, ht, hc, hst⟩
  · exact .inl ⟨hk, hc, ha, fun c e => (blank_of (hb c e)).1⟩
  · exact .inr (.inl ⟨hk, hne, ha, fun c e => (blank_of (hb c e)).2.1⟩)
  · exact .inr (.inr (.inl ⟨hk, ht⟩))
  · exact .inr (.inr (.inr ⟨hk, c, ht, hc, fun e => absurd rfl (blank_of (hb 61 e)).2.2⟩))

theorem sc_none {c : UInt8} {r : List UInt8} (p n : Nat) (h0 : blankB c = false) (h1 : small c = false) (h2 : digit c = false) (h3 : signsL.contains c = false) : sc (c :: r) 0 p n = .err p 10 := by
  have hz := first_none (r := r) |>.2 ⟨h1, h2, h3⟩
  have hk := (firstOf_zero (c :: r)).2 hz
  have he : wrongOf (firstOf (c :: r)).1 ((c :: r).take (firstOf (c :: r)).2) n = 10 := by rw [hk]; rfl
  rw [sc_err h0 (by rw [he]; decide), he]
theorem sc_shape {k : Nat} {t r : List UInt8} (p n : Nat) (h : Shape k t r.head?) : sc (t ++ r) 0 p n =
    if wrongOf k t n = 0 then (sc r 0 (p + t.length) (n + 1)).pre [⟨k, t, p⟩] else .err p (wrongOf k t n) := by
  obtain ⟨hne, hb⟩ := shape_bytes h
  have hf := shape_first h
  obtain ⟨c, u, rfl⟩ := List.exists_cons_of_ne_nil hne
  have h0 := blank_not (hb c (by simp))
  have hf' : firstOf (c :: (u ++ r)) = (k, (c :: u).length) := hf
  have ht : (c :: (u ++ r)).take (c :: u).length = c :: u := List.take_left (l₁ := c :: u) (l₂ := r)
  have hd : (c :: (u ++ r)).drop (c :: u).length = r := List.drop_left (l₁ := c :: u) (l₂ := r)
  show sc (c :: (u ++ r)) 0 p n = _
  by_cases he : wrongOf k (c :: u) n = 0
  · rw [if_pos he, sc_tok h0 (by rw [hf', ht]; exact he), hf', ht, hd]
  · rw [if_neg he, sc_err h0 (by rw [hf', ht]; exact he), hf', ht]
/-- how a text begins -/
theorem sc_ways (l : List UInt8) : l = [] ∨ (∃ c r, l = c :: r ∧ blankB c = true) ∨ (∃ c r, l = c :: r ∧ blankB c = false ∧ small c = false ∧ digit c = false ∧ signsL.contains c = false) ∨
    ∃ k t r, l = t ++ r ∧ Shape k t r.head? := by
  cases l with
  | nil => exact .inl rfl
  | cons c r =>
    cases hb : blankB c with
    | true => exact .inr (.inl ⟨c, r, rfl, hb⟩)
    | false =>
      by_cases hz : (firstOf (c :: r)).2 = 0
      · exact .inr (.inr (.inl ⟨c, r, rfl, hb, first_none.1 hz⟩))
      · obtain ⟨t, r', h1, _, h3⟩ := first_shape (l := c :: r) (k := (firstOf (c :: r)).1) (z := (firstOf (c :: r)).2) rfl hz
        exact .inr (.inr (.inr ⟨_, t, r', h1, h3⟩))

end Go.Proofs.YtmbkjabjcphkbaaDoor
end
