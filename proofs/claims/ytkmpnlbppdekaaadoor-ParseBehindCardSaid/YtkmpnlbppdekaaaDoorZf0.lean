/- Uf Ve Un Uo Tb Da Ce Uy Uz Cf Cg Db Hb Hc Up -/
import Derived.Test.YtkmpnlbppdekaaaDoorZe6
import Derived.StillTailTactics
import Derived.IntWalk
import Derived.Shelf.Small.Strs
import Derived.Shelf.LaysM
import Derived.Shelf.Strconv.Clone
import Derived.Shelf.Strings.Search1
import Derived.Shelf.Strings.Prefix
import Derived.Test.YtkmpnlbppdekaaaDoorRows
import Derived.WalkKit
import Derived.WalkSpells
import Derived.WalkLawsBesides
import Derived.Lib.Hide
import Derived.Lib.IndexAny
import Derived.OwnWalk
import Derived.Deep.AppendLies
import Derived.Laws.AppendOwnNone
import Derived.Deep.QuietTactic
import Derived.BigQuiet
import Derived.Lib.ItoaNum
import Derived.Recover
import Derived.Lib.AppendStr
import Derived.Lib.BufferRead
import Derived.Maps.AppendAt
import Derived.Shelf.Small.Wraps
import Derived.Shelf.Strconv.Itoa0
import Derived.Shelf.Strconv.Itoa1
import Derived.Shelf.Strconv.Itoa2
import Derived.Shelf.Strconv.Itoa3
import Derived.Shelf.Slices.Turned
import Derived.Lib.AppendIntMem
import Derived.Shelf.Strconv.Atoi
import Derived.Lib.AtoiErrMem
section
set_option linter.unusedVariables false
namespace Go.Proofs.YtkmpnlbppdekaaaDoor
open Go.RowKit
mutual
theorem likeE_refl (t : Bool) : ∀ e : Ex, likeE t e e
  | .mk k p n s xs => by rw [likeE]; exact ⟨rfl, fun _ => rfl, rfl, rfl, likeEs_refl t xs⟩
theorem likeEs_refl (t : Bool) : ∀ es : List Ex, likeEs t es es
  | [] => by rw [likeEs]; trivial
  | e :: es => by rw [likeEs]; exact ⟨likeE_refl t e, likeEs_refl t es⟩
end
end Go.Proofs.YtkmpnlbppdekaaaDoor
end
section
set_option linter.unusedVariables false
namespace Go.Proofs.YtkmpnlbppdekaaaDoor
open Go.RowKit
section
variable {w : World} {Bc Ba k : Nat} {v : Value}
theorem Cells.fa (h : Cells w Bc Ba k v) : w.frozen? ⟨Ba, 0, none⟩ = false := frozen_of_row w Ba 0 _ _ h.a
end
end Go.Proofs.YtkmpnlbppdekaaaDoor
end
section
set_option linter.unusedVariables false
namespace Go.Proofs.YtkmpnlbppdekaaaDoor
open Go.RowKit
theorem prsV_len : ∀ ps : List Pr, (prsV ps).length = ps.length * 2
  | [] => rfl
  | p :: ps => by simp [prsV, prsV_len ps]; omega
theorem prsV_one (ps : List Pr) : ∀ u ∈ prsV ps, u.oneCell' = true := by
  induction ps with
  | nil => intro u hu; simp [prsV] at hu
  | cons p ps ih =>
    intro u hu
    simp [prsV] at hu
    rcases hu with rfl | rfl | hu
    · rfl
    · rfl
    · exact ih u hu
theorem prsV_cell {w : World} {b off : Nat} {ps : List Pr} (h : ∀ (k : Nat) (hk : k < ps.length), w.cell? ⟨b, off + k * 2, none⟩ = some (.string (strOf ps[k].name)) ∧ w.cell? ⟨b, off + k * 2 + 1, none⟩ = some (.string (strOf ps[k].type))) :
    ∀ j u, (prsV ps)[j]? = some u → w.cell? ((⟨b, off, none⟩ : Addr).add j) = some u := by
  intro j u hj
  have hlt : j < ps.length * 2 := by
    rw [← prsV_len]
    rcases Nat.lt_or_ge j (prsV ps).length with h1 | h1
    · exact h1
    · rw [List.getElem?_eq_none h1] at hj; cases hj
  rw [add_pl]
  rcases Nat.mod_two_eq_zero_or_one j with hm | hm
  · have e : j = j / 2 * 2 := by omega
    rw [e, prsV_get0 ps (j / 2) (by omega)] at hj
    rw [e, (h (j / 2) (by omega)).1]
    exact hj
  · have e : j = j / 2 * 2 + 1 := by omega
    rw [e, prsV_get1 ps (j / 2) (by omega)] at hj
    rw [e, show off + (j / 2 * 2 + 1) = off + j / 2 * 2 + 1 from by omega, (h (j / 2) (by omega)).2]
    exact hj
theorem wpList_append_prs {ops : Array Oper} {rest : List Oper} {o : Oper} {a : Act} {w : World} {Q : Exit → Act → World → Prop} (hgd : o.guard = none) (s x : Operand)
    (ho : o.op = .call { callee := .builtin .append, args := #[s, x], argTypes := #[35, 35] })
    (g : Nat) (hs : a.eval s = .slice (some ⟨g, 0, none⟩) 0 0) (hg : w.heap[g]? = some (.cells #[] 73 (0, 0))) (hgs : g < w.heap.size) (S : Nat → Prop) (ps : List Pr) (v : Value) (hx : a.eval x = v) (hp : PrsIn w S ps v) (hn : ps.length ≤ 1000000)
    (h : ∀ v' w', PrsIn w' (fun b => g ≤ b ∧ b < w'.heap.size ∧ (b = g ∨ w.heap.size ≤ b)) ps v' → w.grownBy w' (some g) → wpList Tryd.prog ops Q rest (a.put o.dst v') w') : wpList Tryd.prog ops Q (o :: rest) a w := by
  obtain ⟨i0, hi, hz0, hz1, hz2⟩ := info_parts info_pr
  obtain ⟨A, c, rfl, hc, hM, hA⟩ := hp
  have hrow : w.ownsRow g 73 2 (.slice (some ⟨g, 0, none⟩) 0 0) 0 [] := ⟨rfl, .inr ⟨g, 0, #[], rfl, Nat.le_refl _, hg, Nat.le_refl _, by unfold maxLen; omega, rfl, rfl⟩⟩
  have hsm : ∀ (k : Nat) (hk : k < ps.length), ps[k].name.length ≤ 140737488355328 ∧ ps[k].type.length ≤ 140737488355328 := fun k hk => by
    obtain ⟨_, _, _, _, q1, q2, _⟩ := hA k hk
    exact ⟨q1, q2⟩
  have hfin : ∀ v' w', w'.ownsRow g 73 2 v' (0 + ps.length) ([] ++ prsV ps) → w.grownBy w' (Value.slice (some ⟨g, 0, none⟩) 0 0).ownBlock → (v'.ownBlock = (Value.slice (some ⟨g, 0, none⟩) 0 0).ownBlock ∨ v'.ownBlock = some w.heap.size) → wpList Tryd.prog ops Q rest (a.put o.dst v') w' := by
    intro v' w' h1 h2 h3
    rw [Nat.zero_add, List.nil_append] at h1
    refine h v' w' ((prs_of_row hsm h1).keep (fun _ _ => rfl) (fun b hb => ⟨hb.1, hb.2.1, ?_⟩)) h2
    rcases h3 with h3 | h3
    · left
      have := hb.2.2
      rw [h3] at this
      simpa [Value.ownBlock] using this.symm
    · right
      have := hb.2.2
      rw [h3] at this
      have e : w.heap.size = b := by simpa using this
      omega
  cases A with
  | none =>
    have h0 : ps = [] := by
      cases ps with
      | nil => rfl
      | cons p ps =>
        obtain ⟨_, _, q, _⟩ := hA 0 (by simp)
        cases q
    subst h0
    have hr : (Builtin.append_ #[35, 35] o.type #[.slice (some ⟨g, 0, none⟩) 0 0, .slice none 0 c]).run Tryd.prog w = .ok (.slice (some ⟨g, 0, none⟩) 0 0) w := by
      simp [Builtin.append_, run_underlying Tryd.underlying35, sizeOf, typeInfo, hi, Builtin.lenOf, Builtin.firstCells, loadCells, loadCellsFrom, storeCells]
    refine wpList_plain hgd fun K hK => ?_
    unfold Oper.wp execOp
    simp only [ho, resolve, invoke, builtin, Sem.run_bind, Sem.run_pure, Result.andThen_ok, List.map_toArray, List.map_cons, List.map_nil, hs, hx, List.length_nil, hr]
    exact hK _ _ (hfin _ w hrow ⟨rfl, rfl, rfl, Nat.le_refl _, fun _ _ _ => rfl⟩ (.inl rfl))
  | some ad =>
    by_cases hz : ps = []
    · subst hz
      exact wpList_append_own_at w hgd s x 35 ho g 73 i0 _ 2 32 Tryd.underlying35 hi hz0 hz1 hz2 rfl (by decide) _ 0 [] hs hrow ad 0 c [] hx rfl (fun j u hj => by simp at hj) (fun u hu => by simp at hu) (by unfold maxLen; omega) (by omega) (by omega) fun v' w' h1 h2 _ h4 => hfin v' w' (by simpa [prsV] using h1) h2 h4
    · have hpos : 0 < ps.length := by
        cases ps with
        | nil => exact absurd rfl hz
        | cons p ps => simp
      obtain ⟨b, off, hb, _⟩ := hA 0 hpos
      injection hb with hb
      subst hb
      have hcells : ∀ (k : Nat) (hk : k < ps.length), w.cell? ⟨b, off + k * 2, none⟩ = some (.string (strOf ps[k].name)) ∧ w.cell? ⟨b, off + k * 2 + 1, none⟩ = some (.string (strOf ps[k].type)) := fun k hk => by
        obtain ⟨b', off', e, _, _, _, c0, c1⟩ := hA k hk
        cases e
        exact ⟨c0, c1⟩
      exact wpList_append_own_at w hgd s x 35 ho g 73 i0 _ 2 32 Tryd.underlying35 hi hz0 hz1 hz2 rfl (by decide) _ 0 [] hs hrow ⟨b, off, none⟩ ps.length c (prsV ps) hx (prsV_len ps) (prsV_cell hcells) (prsV_one ps) (by unfold maxLen; omega) (by omega) (by omega) fun v' w' h1 h2 _ h4 => hfin v' w' h1 h2 h4
end Go.Proofs.YtkmpnlbppdekaaaDoor
end
section
set_option linter.unusedVariables false
namespace Go.Proofs.YtkmpnlbppdekaaaDoor
open Go.RowKit
theorem wpList_append_dc {ops : Array Oper} {rest : List Oper} {o : Oper} {a : Act} {w : World} {Q : Exit → Act → World → Prop} (hgd : o.guard = none) (s x : Operand)
    (ho : o.op = .call { callee := .builtin .append, args := #[s, x], argTypes := #[23, 23] })
    (base : Nat) (v : Value) (ss : List Dc) (hs : a.eval s = v) (hown : OwnDc w base v ss) (ad : Addr) (c : Nat) (e : Dc) (u : Vd) (hx : a.eval x = .slice (some ad) 1 c)
    (hnews : ∀ j y, (dcCells e u)[j]? = some y → w.cell? (ad.add j) = some y) (hu : DcIn w (fun b => base ≤ b ∧ b < w.heap.size ∧ v.ownBlock ≠ some b) e u) (hb : ss.length ≤ 1000000) (hbase : base ≤ w.heap.size)
    (h : ∀ v' w', OwnDc w' base v' (ss ++ [e]) → w.grownBy w' v.ownBlock → wpList Tryd.prog ops Q rest (a.put o.dst v') w') : wpList Tryd.prog ops Q (o :: rest) a w := by
  obtain ⟨i0, hi, hz0, hz1, hz2⟩ := info_parts info_dc
  obtain ⟨fs, hl, hrow, hin⟩ := hown
  refine wpList_append_lies _ hgd s x 23 ho base 38 i0 _ 7 104 Tryd.underlying23 hi hz0 hz1 hz2 rfl (by decide) v ss.length (dcsV ss fs) hs hrow ad 1 c (dcCells e u) hx rfl hnews (dcCells_one e u hu.2.2.1.one hu.2.2.2.one)
    (by omega) (by unfold maxLen; omega) (by omega) hbase w.heap.size rfl fun g cap w' hown' hgr hat hlt => h _ w' ?_ hgr
  have hkeep : ∀ b, (base ≤ b ∧ b < w.heap.size ∧ v.ownBlock ≠ some b) → w'.heap[b]? = w.heap[b]? := fun b hb => hgr.block b hb.2.1 (fun e => hb.2.2 e.symm)
  have hS : ∀ b, (base ≤ b ∧ b < w.heap.size ∧ v.ownBlock ≠ some b) → (base ≤ b ∧ b < w'.heap.size ∧ (Value.slice (some ⟨g, 0, none⟩) (ss.length + 1) cap).ownBlock ≠ some b) := fun b hb => by
    have hsz := hgr.size
    refine ⟨hb.1, by omega, fun e => ?_⟩
    have e' : g = b := by simpa [Value.ownBlock] using e
    rcases hat with hat | hat
    · exact hb.2.2 (by rw [hat, e'])
    · omega
  refine ⟨fs ++ [u], by simp [hl], ?_, fun k hk hk' => ?_⟩
  · rw [List.length_append, dcsV_app e u hl]
    exact hown'
  · by_cases hke : k < ss.length
    · have hkf : k < fs.length := by omega
      rw [List.getElem_append_left hke, List.getElem_append_left hkf]
      exact (hin k hke hkf).keep hkeep hS
    · have hk0 : k = ss.length := by simp at hk; omega
      subst hk0
      have e1 : (ss ++ [e])[ss.length] = e := by simp
      have e2 : (fs ++ [u])[ss.length]'hk' = u := by
        rw [List.getElem_append_right (by omega)]
        simp [hl]
      rw [e1, e2]
      exact hu.keep hkeep hS
end Go.Proofs.YtkmpnlbppdekaaaDoor
end
section
set_option linter.unusedVariables false
namespace Go.Proofs.YtkmpnlbppdekaaaDoor
def turn (c : UInt8) : UInt8 := if c.toNat = 32 then 10 else if c.toNat = 10 then 32 else c
theorem turn_blank {c : UInt8} (h : blankB c = true) : blankB (turn c) = true := by
  unfold turn
  split
  · decide
  · split
    · decide
    · exact h
theorem turn_same {c : UInt8} (h : blankB c = false) : turn c = c := by
  unfold blankB at h
  rw [Bool.or_eq_false_iff, beq_eq_false_iff_ne, beq_eq_false_iff_ne] at h
  unfold turn
  rw [if_neg h.1, if_neg h.2]
theorem turn_text {t : List UInt8} (h : ∀ c ∈ t, 32 < c.toNat) : t.map turn = t := by
  induction t with
  | nil => rfl
  | cons c t ih =>
    rw [List.map_cons, turn_same (blank_not (h c (by simp))), ih (fun d hd => h d (by simp [hd]))]
theorem shape_turn {k : Nat} {t r : List UInt8} (h : Shape k t r.head?) : Shape k t (r.map turn).head? := by
  cases r with
  | nil => exact h
  | cons c r =>
    cases hb : blankB c with
    | true => exact shape_soft h (fun d e => by
        have : turn c = d := by simpa using e
        rw [← this]; exact turn_blank hb)
    | false =>
      rw [List.map_cons, turn_same hb]
      exact h
theorem sc_turn : ∀ (l : List UInt8) (p n : Nat), sc (l.map turn) 0 p n = sc l 0 p n := by
  intro l
  refine sc_ind (P := fun l => ∀ (p n : Nat), sc (l.map turn) 0 p n = sc l 0 p n) ?_ ?_ ?_ ?_ l
  · intro p n; rfl
  · intro c r hb ih p n
    rw [List.map_cons, sc_blank hb, sc_blank (turn_blank hb), ih]
  · intro c r a b' e f p n
    rw [List.map_cons, turn_same a, sc_none p n a b' e f, sc_none p n a b' e f]
  · intro k t r hs ih p n
    rw [List.map_append, turn_text (shape_bytes hs).2, sc_shape p n hs, sc_shape p n (shape_turn hs), ih]
theorem toks_turn (l : List UInt8) : toks (l.map turn) = toks l := by
  unfold toks
  rw [List.length_map, sc_turn]
end Go.Proofs.YtkmpnlbppdekaaaDoor
end
section
set_option linter.unusedVariables false
namespace Go.Proofs.YtkmpnlbppdekaaaDoor
open Go.RowKit
section
variable {a b : List UInt8}
theorem nl_turn (a b : List UInt8) : (a ++ 10 :: b).map turn = a.map turn ++ 32 :: b.map turn := by
  rw [List.map_append, List.map_cons]; rfl
theorem nl_toks (a b : List UInt8) : toks (a ++ 10 :: b) = toks (a.map turn ++ 32 :: b.map turn) := by rw [← nl_turn, toks_turn]
theorem nl_both (h : a.length + b.length ≤ 16383) {x y : List Tok} (ha : toks a = .ok x) (hb : toks b = .ok y) (hl : x.length + y.length ≤ 4096) :
    toks (a ++ 10 :: b) = .ok (x ++ y.map (Tok.on (a.length + 1))) := by
  rw [nl_toks, bl_both (by simpa using h) ((toks_turn a).trans ha) ((toks_turn b).trans hb) hl, List.length_map]
theorem nl_many (h : a.length + b.length ≤ 16383) {x y : List Tok} (ha : toks a = .ok x) (hb : toks b = .ok y) (hl : ¬ x.length + y.length ≤ 4096) :
    ∃ q, toks (a ++ 10 :: b) = .err q 12 := by
  rw [nl_toks]
  exact bl_many (by simpa using h) ((toks_turn a).trans ha) ((toks_turn b).trans hb) hl
end
end Go.Proofs.YtkmpnlbppdekaaaDoor
end
section
set_option linter.unusedVariables false
set_option linter.unusedSimpArgs false
namespace Go.Proofs.YtkmpnlbppdekaaaDoor
open Go.RowKit
section
variable {α : Type} {shut : List UInt8} {least : Nat} {P : Nat → Nat → List Tok → Rd α}
end
theorem ez_shut (d : Dc) : Ez (fun L us => shutM L d us) := by
  unfold shutM
  exact (Ez.take _).map _
theorem ez_fields : Ez (fun L us => fieldsM L us) := by
  unfold fieldsM
  exact Ez.bind (Gd.take _) fun _ => Ez.until (P := fun L => fieldM L) (by decide) gd_field (fun L n us => fieldM_lt n us) 0
theorem ez_body : Ez (fun L us => bodyM L us) := by
  unfold bodyM blockM
  exact Ez.bind (Gd.take _) fun _ => Ez.until (P := fun L _ => stmtM L 24) (by decide) (fun _ => gd_stmt 24 (by decide)) (fun L _ us => stmtM_lt 24 us) 0
theorem ez_decl1 (w : List UInt8) (p : Nat) (s : List UInt8) : Ez (fun L us => declM1 L w p s us) := by
  unfold declM1
  refine Ez.ite (hd_const _) (ez_fields.map _) (Ez.ite (hd_const _) ?_ (Ez.ite (hd_const _) (ez_body.map _) (Ez.ite (hd_const _) (ez_shut _) (Ez.ite (hd_const _) (Ez.bind gd_places fun n => ez_shut _) (Ez.ite (hd_const _) (Ez.bind gd_types fun y => ez_shut _) (Ez.ite (hd_const _) (ez_shut _) (ez_shut _)))))))
  exact Ez.bind gd_params fun ps => Ez.ite (hd_tx _) (ez_body.map _) (Ez.bind gd_types fun y => ez_body.map _)
theorem ez_decl (k : Nat) : Ez (fun L us => declM L k us) := by
  have key : ∀ w, Ez (fun L r => (roomM L (decide (kd r = 1)) k 64 r).bind fun _ r2 => declM1 L w (plc L r2) (tx r2) r2.tail) := fun w => {
    toGd := Gd.room (b := fun r => decide (kd r = 1)) (X := fun L r2 => declM1 L w (plc L r2) (tx r2) r2.tail) (fun _ _ _ => rfl) (by decide) (Gp.ahead (H := fun s p L r => declM1 L w p s r) fun s p => gd_decl1 w p s)
    bad := fun L => rfl
    ext := fun L L' us rest a r h => by
      cases us with
      | nil => cases h
      | cons t r2 =>
        unfold roomM at h ⊢
        by_cases hk : t.kind = 1
        · rw [if_pos (show decide (kd (t :: r2) = 1) = true from decide_eq_true hk)] at h
          rw [if_pos (show decide (kd (t :: r2 ++ rest) = 1) = true from decide_eq_true hk)]
          by_cases hn : k < 64
          · rw [if_pos hn] at h ⊢
            exact (ez_decl1 w t.pl t.text).ext L L' r2 rest a r h
          · rw [if_neg hn] at h; cases h
        · rw [if_neg (show ¬ decide (kd (t :: r2) = 1) = true from fun e => hk (of_decide_eq_true e))] at h; cases h }
  unfold declM
  exact Ez.bind (Gd.take _) fun t => key t.text
theorem prog_app (L L' : Nat) (vs : List Tok) : ∀ (n k : Nat) (us : List Tok) (ds : List Dc), us.length ≤ n → (∀ t ∈ us, t.text ≠ []) → untilM [] 0 (declM L) (us.length + 1) k us = .ok ds [] →
    untilM [] 0 (declM L') ((us ++ vs).length + 1) k (us ++ vs) = (untilM [] 0 (declM L') (vs.length + 1) (k + ds.length) vs).map (ds ++ ·) := by
  have nil : ∀ (k : Nat) (ds : List Dc), untilM [] 0 (declM L) (([] : List Tok).length + 1) k [] = .ok ds [] → untilM [] 0 (declM L') (([] ++ vs).length + 1) k ([] ++ vs) = (untilM [] 0 (declM L') (vs.length + 1) (k + ds.length) vs).map (ds ++ ·) := by
    intro k ds h
    rw [until_eq (fun n us => declM_lt n us), if_neg (by rintro (h | h); omega; exact h rfl)] at h
    cases h
    show untilM [] 0 (declM L') (vs.length + 1) k vs = (untilM [] 0 (declM L') (vs.length + 1) k vs).map ([] ++ ·)
    cases untilM [] 0 (declM L') (vs.length + 1) k vs <;> rfl
  intro n
  induction n with
  | zero =>
    intro k us ds hn ht h
    obtain rfl := List.eq_nil_of_length_eq_zero (Nat.le_zero.1 hn)
    exact nil k ds h
  | succ n ih =>
    intro k us ds hn ht h
    cases us with
    | nil => exact nil k ds h
    | cons t r2 =>
      have hc : t.text ≠ [] := ht t (by simp)
      rw [until_eq (fun n us => declM_lt n us) k (t :: r2), if_pos (.inr (show tx (t :: r2) ≠ [] from hc))] at h
      rw [until_eq (fun n us => declM_lt n us) k (t :: r2 ++ vs), if_pos (.inr (show tx (t :: r2 ++ vs) ≠ [] from hc))]
      obtain ⟨d, r1, h1, h2⟩ := Rd.bind_ok h
      obtain ⟨ds2, h3, rfl⟩ := Rd.map_ok h2
      have hl := declM_lt (L := L) k _ d r1 h1
      obtain ⟨q, e⟩ := (gd_decl k).suf' L _ h1
      rw [show declM L' k (t :: r2 ++ vs) = _ from (ez_decl k).ext L L' _ vs d r1 h1]
      show (untilM [] 0 (declM L') ((r1 ++ vs).length + 1) (k + 1) (r1 ++ vs)).map (d :: ·) = _
      rw [ih (k + 1) r1 ds2 (by simp at hn hl; omega) (fun u hu => ht u (by rw [e]; exact List.mem_append_right _ hu)) h3]
      rw [show k + (d :: ds2).length = k + 1 + ds2.length from by simp; omega]
      cases untilM [] 0 (declM L') (vs.length + 1) (k + 1 + ds2.length) vs <;> rfl
end Go.Proofs.YtkmpnlbppdekaaaDoor
end
section
set_option linter.unusedVariables false
namespace Go.Proofs.YtkmpnlbppdekaaaDoor
open Go.RowKit
mutual
def likeS (at_ : Bool) : Sm → Sm → Prop
  | .mk k p n t ex bd el, .mk k' p' n' t' ex' bd' el' => k = k' ∧ (at_ = true → p = p') ∧ n = n' ∧ t = t' ∧ likeEs at_ ex ex' ∧ likeSs at_ bd bd' ∧ likeSs at_ el el'
def likeSs (at_ : Bool) : List Sm → List Sm → Prop
  | [], [] => True
  | a :: xs, b :: bs => likeS at_ a b ∧ likeSs at_ xs bs
  | [], _ :: _ => False
  | _ :: _, [] => False
end
theorem likeSs_len {t : Bool} : ∀ {xs bs : List Sm}, likeSs t xs bs → xs.length = bs.length
  | [], [], _ => rfl
  | a :: xs, b :: bs, h => by rw [likeSs] at h; rw [List.length_cons, List.length_cons, likeSs_len h.2]
  | [], _ :: _, h => by rw [likeSs] at h; exact h.elim
  | _ :: _, [], h => by rw [likeSs] at h; exact h.elim
theorem likeSs_get {t : Bool} : ∀ {xs bs : List Sm}, likeSs t xs bs → ∀ (k : Nat) (h1 : k < xs.length) (h2 : k < bs.length), likeS t xs[k] bs[k]
  | [], [], _, k, h1, _ => absurd h1 (by simp)
  | a :: xs, b :: bs, h, 0, _, _ => by rw [likeSs] at h; exact h.1
  | a :: xs, b :: bs, h, k + 1, h1, h2 => by rw [likeSs] at h; exact likeSs_get h.2 k (by simpa using h1) (by simpa using h2)
  | [], _ :: _, h, _, _, _ => by rw [likeSs] at h; exact h.elim
  | _ :: _, [], h, _, _, _ => by rw [likeSs] at h; exact h.elim
theorem likeS_parts {t : Bool} {a b : Sm} (h : likeS t a b) : a.kind = b.kind ∧ (t = true → a.pl = b.pl) ∧ a.name = b.name ∧ a.type = b.type ∧ likeEs t a.exprs b.exprs ∧ likeSs t a.body b.body ∧ likeSs t a.els b.els := by
  cases a; cases b
  rw [likeS] at h
  exact h
mutual
theorem likeS_refl (t : Bool) : ∀ e : Sm, likeS t e e
  | .mk k p n s ex bd el => by rw [likeS]; exact ⟨rfl, fun _ => rfl, rfl, rfl, likeEs_refl t ex, likeSs_refl t bd, likeSs_refl t el⟩
theorem likeSs_refl (t : Bool) : ∀ es : List Sm, likeSs t es es
  | [] => by rw [likeSs]; trivial
  | e :: es => by rw [likeSs]; exact ⟨likeS_refl t e, likeSs_refl t es⟩
end
end Go.Proofs.YtkmpnlbppdekaaaDoor
end
section
namespace Go.Proofs.YtkmpnlbppdekaaaDoor
open Go.RowKit
def likeD (t : Bool) (a b : Dc) : Prop := a.kind = b.kind ∧ (t = true → a.pl = b.pl) ∧ a.num = b.num ∧ a.name = b.name ∧ a.type = b.type ∧ a.pairs = b.pairs ∧ likeSs t a.body b.body
def likeDs (t : Bool) (xs bs : List Dc) : Prop := xs.length = bs.length ∧ ∀ (k : Nat) (h1 : k < xs.length) (h2 : k < bs.length), likeD t xs[k] bs[k]
theorem likeDs_refl (t : Bool) (ds : List Dc) : likeDs t ds ds := ⟨rfl, fun _ _ _ => ⟨rfl, fun _ => rfl, rfl, rfl, rfl, rfl, likeSs_refl t _⟩⟩
theorem likeDs_nil (t : Bool) : likeDs t [] [] := ⟨rfl, fun k h1 => absurd h1 (by simp)⟩
theorem likeDs_cons {t : Bool} {a b : Dc} {xs bs : List Dc} (h : likeD t a b) (h2 : likeDs t xs bs) : likeDs t (a :: xs) (b :: bs) := by
  refine ⟨by rw [List.length_cons, List.length_cons, h2.1], fun k h1 h3 => ?_⟩
  cases k with
  | zero => exact h
  | succ k => exact h2.2 k (by simpa using h1) (by simpa using h3)
end Go.Proofs.YtkmpnlbppdekaaaDoor
end
section
set_option linter.unusedVariables false
set_option linter.unusedSimpArgs false
namespace Go.Proofs.YtkmpnlbppdekaaaDoor
open Go.RowKit
section
variable {u v : List Tok}
variable {L L' : Nat}
theorem rl_types (h : Alike u v) : RL Eq (typesM L u) (typesM L' v) := by
  unfold typesM
  refine (rl_take _ h).bind fun t t' r r' ht hr => ?_
  refine RL.ite (by rw [ht.2]) ?_ (RL.ite (by rw [ht.2]) ?_ (RL.ok ht.2 hr))
  · exact (rl_take _ hr).bind fun _ _ r r' _ hr => (rl_take _ hr).map fun _ _ _ => rfl
  · exact (rl_name hr).map fun a b e => by rw [e]
theorem rl_places (h : Alike u v) : RL Eq (placesM L u) (placesM L' v) := by
  unfold placesM
  rw [al_kd h, al_tx h]
  exact RL.ite Iff.rfl (RL.ite Iff.rfl (RL.ok rfl (al_tail h)) RL.bad) RL.bad
theorem rl_comma (k : Nat) (h : Alike u v) : RL Eq (commaM L k u) (commaM L' k v) := by
  unfold commaM
  exact RL.ite Iff.rfl ((rl_take _ h).map fun _ _ _ => rfl) (RL.ok rfl h)
theorem rl_room (b : Bool) (k m : Nat) (h : Alike u v) : RL Eq (roomM L b k m u) (roomM L' b k m v) := by
  unfold roomM
  exact RL.ite Iff.rfl (RL.ite Iff.rfl (RL.ok rfl h) RL.bad) RL.bad
theorem rl_pair (m k : Nat) (h : Alike u v) : RL Eq (pairM L m k u) (pairM L' m k v) := by
  unfold pairM
  rw [al_kd h]
  exact (rl_room _ k m h).bind fun _ _ r r' _ hr => (rl_name hr).bind fun s s' r r' hs hr => (rl_types hr).map fun t t' ht => by rw [hs, ht]
end
section
variable {α β : Type} {R : α → β → Prop} {RS : List α → List β → Prop} {shut : List UInt8} {least : Nat} {P : Nat → List Tok → Rd α} {Q : Nat → List Tok → Rd β}
theorem rl_until (h0 : RS [] []) (h1 : ∀ a b l l', R a b → RS l l' → RS (a :: l) (b :: l')) (hP : ∀ k u v, Alike u v → RL R (P k u) (Q k v)) : ∀ (m k : Nat) (u v : List Tok), Alike u v → RL RS (untilM shut least P m k u) (untilM shut least Q m k v)
  | 0, k, u, v, h => RL.bad
  | m + 1, k, u, v, h => by
    rw [untilM.eq_def, untilM.eq_def]
    refine RL.ite (by rw [al_tx h]) ?_ ?_
    · exact (hP k u v h).bind fun a b r s hab hrs => (rl_until h0 h1 hP m (k + 1) r s hrs).map fun l l' hl => h1 a b l l' hab hl
    · match u, v, h with
      | [], [], _ => exact RL.ok h0 trivial
      | t :: r, t' :: r', h => exact RL.ok h0 h.2.2
end
section
variable {L L' : Nat} {u v : List Tok}
theorem eq_cons {α : Type} : ∀ (a b : α) (l l' : List α), a = b → l = l' → a :: l = b :: l' := fun _ _ _ _ h h' => by rw [h, h']
theorem rl_fields (h : Alike u v) : RL Eq (fieldsM L u) (fieldsM L' v) := by
  unfold fieldsM
  refine (rl_take _ h).bind fun _ _ r r' _ hr => ?_
  rw [hr.len]
  refine rl_until rfl eq_cons (fun k u v h => ?_) _ 0 r r' hr
  unfold fieldM
  exact (rl_pair 8 k h).bind fun p p' r r' hp hr => (rl_take _ hr).map fun _ _ _ => hp
theorem rl_params (h : Alike u v) : RL Eq (paramsM L u) (paramsM L' v) := by
  unfold paramsM
  refine (rl_take _ h).bind fun _ _ r r' _ hr => ?_
  rw [hr.len]
  refine rl_until rfl eq_cons (fun k u v h => ?_) _ 0 r r' hr
  unfold paramM
  exact (rl_comma k h).bind fun _ _ r r' _ hr => rl_pair 4 k hr
variable {E E' : List Tok → Rd Ex}
end
theorem ss_cons (a b : Sm) (l l' : List Sm) (h : likeS false a b) (hl : likeSs false l l') : likeSs false (a :: l) (b :: l') := by rw [likeSs]; exact ⟨h, hl⟩
theorem ss_nil : likeSs false [] [] := by rw [likeSs]; trivial
theorem mk_st {k : Int} {p p' : Int} {nm ty : List UInt8} {ex ex' : List Ex} {bd bd' el el' : List Sm} (h1 : likeEs false ex ex') (h2 : likeSs false bd bd') (h3 : likeSs false el el') : likeS false (.mk k p nm ty ex bd el) (.mk k p' nm ty ex' bd' el') := by
  rw [likeS]; exact ⟨rfl, nofun, rfl, rfl, h1, h2, h3⟩
section
variable {L L' : Nat}
theorem rl_args (n : Nat) {u v : List Tok} (h : Alike u v) : RL (likeEs false) (argsM L (exprM L n) u) (argsM L' (exprM L' n) v) := by
  unfold argsM
  refine (rl_take _ h).bind fun _ _ r r' _ hr => ?_
  rw [hr.len]
  refine rl_until es_nil es_cons (fun k u v h => ?_) _ 0 r r' hr
  unfold argM
  refine (rl_comma k h).bind fun _ _ r r' _ hr => ?_
  rw [al_opens hr]
  exact (rl_room _ k 4 hr).bind fun _ _ r r' _ hr => rl_expr L L' n r r' hr
theorem rl_block {S S' : List Tok → Rd Sm} (hS : ∀ u v, Alike u v → RL (likeS false) (S u) (S' v)) (least : Nat) {u v : List Tok} (h : Alike u v) : RL (likeSs false) (blockM L S least u) (blockM L' S' least v) := by
  unfold blockM
  refine (rl_take _ h).bind fun _ _ r r' _ hr => ?_
  rw [hr.len]
  exact rl_until ss_nil ss_cons (fun _ => hS) _ 0 r r' hr
theorem rl_end {s s' : Sm} (hs : likeS false s s') {u v : List Tok} (h : Alike u v) : RL (likeS false) (endM L s u) (endM L' s' v) := by
  unfold endM
  exact (rl_take _ h).map fun _ _ _ => hs
theorem rl_stmt1 (n : Nat) {S S' : List Tok → Rd Sm} (hS : ∀ u v, Alike u v → RL (likeS false) (S u) (S' v)) {t t' : Tok} (ht : likeT t t') {u v : List Tok} (h : Alike u v) : RL (likeS false) (stmtM1 L (exprM L n) S t u) (stmtM1 L' (exprM L' n) S' t' v) := by
  have hE := rl_expr L L' n
  unfold stmtM1
  rw [ht.2]
  refine RL.ite Iff.rfl ?_ (RL.ite Iff.rfl ?_ (RL.ite Iff.rfl ?_ (RL.ite Iff.rfl ?_ (RL.ite Iff.rfl ?_ (RL.ite Iff.rfl ?_ (RL.ite Iff.rfl ?_ (RL.ite Iff.rfl ?_ (RL.ite Iff.rfl ?_ (RL.ite Iff.rfl ?_ ?_)))))))))
  · refine (hE _ _ h).bind fun c c' r r' hc hr => (rl_block hS 0 hr).bind fun b b' r r' hb hr => ?_
    rw [al_tx hr]
    exact RL.ite Iff.rfl ((rl_block hS 1 (al_tail hr)).map fun l l' hl => mk_st (es_cons _ _ _ _ hc es_nil) hb hl) (RL.ok (mk_st (es_cons _ _ _ _ hc es_nil) hb ss_nil) hr)
  · exact (hE _ _ h).bind fun c c' r r' hc hr => (rl_block hS 0 hr).map fun b b' hb => mk_st (es_cons _ _ _ _ hc es_nil) hb ss_nil
  · exact (rl_name h).bind fun s s' r r' hs hr => (rl_types hr).bind fun y y' r r' hy hr => (rl_take _ hr).bind fun _ _ r r' _ hr => (hE _ _ hr).bind fun c c' r r' hc hr => rl_end (by rw [hs, hy]; exact mk_st (es_cons _ _ _ _ hc es_nil) ss_nil ss_nil) hr
  · refine (hE _ _ h).bind fun c c' r r' hc hr => ?_
    refine RL.ite (by unfold setB; rw [(likeE_parts hc).1]) ?_ RL.bad
    exact (rl_take _ hr).bind fun _ _ r r' _ hr => (hE _ _ hr).bind fun d d' r r' hd hr => rl_end (mk_st (es_cons _ _ _ _ hc (es_cons _ _ _ _ hd es_nil)) ss_nil ss_nil) hr
  · exact (rl_name h).bind fun s s' r r' hs hr => rl_end (by rw [hs]; exact mk_st es_nil ss_nil ss_nil) hr
  · exact (rl_name h).bind fun s s' r r' hs hr => rl_end (by rw [hs]; exact mk_st es_nil ss_nil ss_nil) hr
  · exact (rl_name h).bind fun s s' r r' hs hr => (hE _ _ hr).bind fun c c' r r' hc hr => rl_end (by rw [hs]; exact mk_st (es_cons _ _ _ _ hc es_nil) ss_nil ss_nil) hr
  · exact (rl_name h).bind fun s s' r r' hs hr => (rl_name hr).bind fun y y' r r' hy hr => rl_end (by rw [hs, hy]; exact mk_st es_nil ss_nil ss_nil) hr
  · exact (rl_name h).bind fun s s' r r' hs hr => (hE _ _ hr).bind fun c c' r r' hc hr => rl_end (by rw [hs]; exact mk_st (es_cons _ _ _ _ hc es_nil) ss_nil ss_nil) hr
  · refine (rl_name h).bind fun s s' r r' hs hr => ?_
    rw [al_tx hr, hs]
    refine RL.ite Iff.rfl ?_ ?_
    · exact (rl_name (al_tail hr)).bind fun f f' r r' hf hr => (rl_args n hr).bind fun xs xs' r r' hx hr => rl_end (by rw [hf]; exact mk_st hx ss_nil ss_nil) hr
    · exact (rl_args n hr).bind fun xs xs' r r' hx hr => rl_end (mk_st hx ss_nil ss_nil) hr
  · rw [al_tx h]
    exact RL.ite Iff.rfl (rl_end (mk_st es_nil ss_nil ss_nil) h) ((hE _ _ h).bind fun c c' r r' hc hr => rl_end (mk_st (es_cons _ _ _ _ hc es_nil) ss_nil ss_nil) hr)
end
theorem rl_stmt (L L' : Nat) : ∀ (n : Nat) (u v : List Tok), Alike u v → RL (likeS false) (stmtM L n u) (stmtM L' n v)
  | 0, u, v, h => RL.bad
  | n + 1, u, v, h => by
    unfold stmtM
    exact (rl_take _ h).bind fun t t' r r' ht hr => rl_stmt1 n (rl_stmt L L' n) ht hr
end Go.Proofs.YtkmpnlbppdekaaaDoor
end
section
set_option linter.unusedVariables false
set_option linter.unusedSimpArgs false
namespace Go.Proofs.YtkmpnlbppdekaaaDoor
open Go.RowKit
section
variable {L L' : Nat} {u v : List Tok}
theorem rl_body (h : Alike u v) : RL (likeSs false) (bodyM L u) (bodyM L' v) := by
  unfold bodyM
  exact rl_block (rl_stmt L L' 24) 0 h
theorem rl_shut {d d' : Dc} (hd : likeD false d d') (h : Alike u v) : RL (likeD false) (shutM L d u) (shutM L' d' v) := by
  unfold shutM
  exact (rl_take _ h).map fun _ _ _ => hd
theorem mk_dc {k : Int} {p p' n : Int} {s y : List UInt8} {ps : List Pr} {b b' : List Sm} (h : likeSs false b b') : likeD false ⟨k, p, n, s, y, ps, b⟩ ⟨k, p', n, s, y, ps, b'⟩ := ⟨rfl, nofun, rfl, rfl, rfl, rfl, h⟩
theorem rl_decl1 (w : List UInt8) (p p' : Nat) (s : List UInt8) (h : Alike u v) : RL (likeD false) (declM1 L w p s u) (declM1 L' w p' s v) := by
  unfold declM1
  refine RL.ite Iff.rfl ?_ (RL.ite Iff.rfl ?_ (RL.ite Iff.rfl ?_ (RL.ite Iff.rfl ?_ (RL.ite Iff.rfl ?_ (RL.ite Iff.rfl ?_ (RL.ite Iff.rfl ?_ ?_))))))
  · exact (rl_fields h).map fun a a' ha => by rw [ha]; exact mk_dc ss_nil
  · refine (rl_params h).bind fun a a' r r' ha hr => ?_
    rw [al_tx hr, ha]
    refine RL.ite Iff.rfl ((rl_body hr).map fun b b' hb => mk_dc hb) ?_
    exact (rl_types hr).bind fun y y' r r' hy hr => (rl_body hr).map fun b b' hb => by rw [hy]; exact mk_dc hb
  · exact (rl_body h).map fun b b' hb => mk_dc hb
  · exact rl_shut (mk_dc ss_nil) h
  · exact (rl_places h).bind fun a a' r r' ha hr => rl_shut (by rw [ha]; exact mk_dc ss_nil) hr
  · exact (rl_types h).bind fun a a' r r' ha hr => rl_shut (by rw [ha]; exact mk_dc ss_nil) hr
  · exact rl_shut (mk_dc ss_nil) h
  · exact rl_shut (mk_dc ss_nil) h
theorem rl_decl {k k' : Nat} (hk : k < 64) (hk' : k' < 64) (h : Alike u v) : RL (likeD false) (declM L k u) (declM L' k' v) := by
  unfold declM
  refine (rl_take _ h).bind fun t t' r r' ht hr => ?_
  rw [ht.2, al_kd hr]
  have hroom : RL Eq (roomM L (decide (kd r' = 1)) k 64 r) (roomM L' (decide (kd r' = 1)) k' 64 r') := by
    unfold roomM
    exact RL.ite Iff.rfl (RL.ite ⟨fun _ => hk', fun _ => hk⟩ (RL.ok rfl hr) RL.bad) RL.bad
  refine hroom.bind fun _ _ r r' _ hr => ?_
  rw [al_tx hr]
  exact rl_decl1 _ _ _ _ (al_tail hr)
theorem decl_many {k k' : Nat} (hk' : ¬ k' < 64) (h : Alike u v) {d : Dc} {r : List Tok} (e : declM L k u = .ok d r) : ∃ p, declM L' k' v = .bad p 22 := by
  unfold declM at e
  obtain ⟨t, r1, h1, h2⟩ := Rd.bind_ok e
  rcases rl_take (L := L) (L' := L') dcWords h with ⟨a, b, x, y, h3, h4, h5, h6⟩ | ⟨p, q, c, h3, -⟩
  · rw [h3] at h1; cases h1
    obtain ⟨_, r2, h7, -⟩ := Rd.bind_ok h2
    unfold roomM at h7
    by_cases hkd : decide (kd r1 = 1) = true
    · refine ⟨plc L' y, ?_⟩
      unfold declM
      rw [h4]
      show (roomM L' (decide (kd y = 1)) k' 64 y).bind _ = _
      unfold roomM
      rw [← al_kd h6, if_pos hkd, if_neg hk']; rfl
    · rw [if_neg hkd] at h7; cases h7
  · rw [h3] at h1; cases h1
end
theorem prog_behind (L L' : Nat) : ∀ (m k k' : Nat) (u v : List Tok) (es : List Dc), Alike u v → untilM [] 0 (declM L) m k u = .ok es [] →
    (k' + es.length ≤ 64 ∧ ∃ es', untilM [] 0 (declM L') m k' v = .ok es' [] ∧ likeDs false es es') ∨ (64 < k' + es.length ∧ ∃ p, untilM [] 0 (declM L') m k' v = .bad p 22) ∨ (64 < k' ∧ es = [])
  | 0, k, k', u, v, es, h, e => by cases e
  | m + 1, k, k', u, v, es, h, e => by
    by_cases hc : k < 0 ∨ tx u ≠ []
    · have hc' : k' < 0 ∨ tx v ≠ [] := .inr (by rw [← al_tx h]; exact hc.resolve_left (Nat.not_lt_zero _))
      rw [untilM_go hc] at e
      obtain ⟨d, r1, h1, h2⟩ := Rd.bind_ok e
      obtain ⟨es2, h3, rfl⟩ := Rd.map_ok h2
      have hk : k < 64 := by
        by_cases hk : k < 64
        · exact hk
        · exfalso
          have hrefl : Alike u u := by
            have : ∀ l : List Tok, Alike l l := fun l => by
              induction l with
              | nil => trivial
              | cons t l ih => exact ⟨rfl, rfl, ih⟩
            exact this u
          obtain ⟨p, hp⟩ := decl_many (L' := L) (k' := k) hk hrefl h1
          rw [h1] at hp; cases hp
      by_cases hk' : k' < 64
      · rcases rl_decl (L := L) (L' := L') hk hk' h with ⟨a, b, x, y, h4, h5, h6, h7⟩ | ⟨p, q, c, h4, -⟩
        · rw [h1] at h4; cases h4
          rw [untilM_go hc', h5]
          rcases prog_behind L L' m (k + 1) (k' + 1) r1 y es2 h7 h3 with ⟨h8, es', h9, h10⟩ | ⟨h8, p, h9⟩ | ⟨h8, rfl⟩
          · exact .inl ⟨by simp; omega, b :: es', by show (untilM [] 0 (declM L') m (k' + 1) y).map _ = _; rw [h9]; rfl, likeDs_cons h6 h10⟩
          · exact .inr (.inl ⟨by simp; omega, p, by show (untilM [] 0 (declM L') m (k' + 1) y).map _ = _; rw [h9]; rfl⟩)
          · omega
        · rw [h1] at h4; cases h4
      · obtain ⟨p, hp⟩ := decl_many (L' := L') hk' h h1
        exact .inr (.inl ⟨by simp; omega, p, by rw [untilM_go hc', hp]; rfl⟩)
    · have hc' : ¬ (k' < 0 ∨ tx v ≠ []) := fun x => hc (.inr (by rw [al_tx h]; exact x.resolve_left (Nat.not_lt_zero _)))
      rw [untilM.eq_def] at e ⊢
      dsimp only at e ⊢
      rw [if_neg hc] at e
      rw [if_neg hc']
      match u, v, h, e with
      | [], [], _, e =>
        cases e
        by_cases hk : k' ≤ 64
        · exact .inl ⟨hk, [], rfl, likeDs_nil _⟩
        · exact .inr (.inr ⟨by omega, rfl⟩)
      | t :: r, t' :: r', h, e =>
        simp only [Rd.ok.injEq] at e
        obtain ⟨rfl, rfl⟩ := e
        have h0 : r' = [] := List.eq_nil_of_length_eq_zero h.2.2.len.symm
        subst h0
        by_cases hk : k' ≤ 64
        · exact .inl ⟨hk, [], rfl, likeDs_nil _⟩
        · exact .inr (.inr ⟨by omega, rfl⟩)
end Go.Proofs.YtkmpnlbppdekaaaDoor
end
section
set_option linter.unusedVariables false
namespace Go.Proofs.YtkmpnlbppdekaaaDoor
open Go.RowKit
theorem likeDs_app {t : Bool} {a b c d : List Dc} (h : likeDs t a b) (h2 : likeDs t c d) : likeDs t (a ++ c) (b ++ d) := by
  refine ⟨by rw [List.length_append, List.length_append, h.1, h2.1], fun k h3 h4 => ?_⟩
  by_cases hk : k < a.length
  · rw [List.getElem_append_left hk, List.getElem_append_left (by rw [← h.1]; exact hk)]
    exact h.2 k hk _
  · rw [List.getElem_append_right (by omega), List.getElem_append_right (by rw [← h.1]; omega)]
    simp only [h.1]
    exact h2.2 _ (by rw [List.length_append] at h3; have := h.1; omega) _
theorem prog_both {a b : List UInt8} (hl : a.length + b.length ≤ 16383) {x y : List Dc} {p q : Nat} (ha : progM a = (x, p, 0)) (hb : progM b = (y, q, 0)) :
    (∃ z, progM (a ++ 10 :: b) = (z, 0, 0) ∧ likeDs false (x ++ y) z) ∨ (64 < x.length + y.length ∧ ∃ p, progM (a ++ 10 :: b) = ([], p, 22)) ∨ ∃ p, progM (a ++ 10 :: b) = ([], p, 12) := by
  obtain ⟨us, h1, h2, -⟩ := prog_ok ha rfl
  obtain ⟨vs, h3, h4, -⟩ := prog_ok hb rfl
  by_cases hm : us.length + vs.length ≤ 4096
  · have h5 := nl_both hl h1 h3 hm
    have h6 := prog_app a.length (a ++ 10 :: b).length (vs.map (Tok.on (a.length + 1))) us.length 0 us x (Nat.le_refl _) (fun t ht => (toks_okT h1 t ht).1) h2
    rw [prog_of h5, show programM (a ++ 10 :: b).length (us ++ vs.map (Tok.on (a.length + 1))) = _ from h6]
    rw [show ((vs.map (Tok.on (a.length + 1))).length + 1) = vs.length + 1 by rw [List.length_map]]
    rcases prog_behind b.length (a ++ 10 :: b).length (vs.length + 1) 0 (0 + x.length) vs (vs.map (Tok.on (a.length + 1))) y (on_alike _ vs) h4 with ⟨-, es, h8, h9⟩ | ⟨h8, p, h9⟩ | ⟨-, rfl⟩
    · rw [h8]
      exact .inl ⟨x ++ es, rfl, likeDs_app (likeDs_refl _ _) h9⟩
    · rw [h9]
      exact .inr (.inl ⟨by omega, p, rfl⟩)
    · have hv : vs = [] := by
        cases vs with
        | nil => rfl
        | cons t r =>
          have hc : 0 < 0 ∨ tx (t :: r) ≠ [] := .inr ((toks_okT h3 t (by simp)).1)
          unfold programM at h4
          rw [untilM_go hc] at h4
          obtain ⟨d, r1, -, h7⟩ := Rd.bind_ok h4
          obtain ⟨ds2, -, h8⟩ := Rd.map_ok h7
          cases h8
      subst hv
      exact .inl ⟨x ++ [], rfl, likeDs_refl _ _⟩
  · obtain ⟨q, h5⟩ := nl_many hl h1 h3 hm
    refine .inr (.inr ⟨q, ?_⟩)
    unfold progM
    rw [h5]
end Go.Proofs.YtkmpnlbppdekaaaDoor
end
section
set_option linter.unusedVariables false
namespace Go.Proofs.YtkmpnlbppdekaaaDoor
open Go.RowKit
set_option maxHeartbeats 4000000 in
set_option maxRecDepth 100000 in
theorem samesL_any {w0 : World} {B : Nat} {es bs : List Ex} {v u : Value} (h : IsExs w0 (· < B) es v) (hu : IsExs w0 (· < B) bs u) (t : Bool) (hlk : likeEs t es bs) (deep : Int) (w : World) (hb : Below B w0 w) (hB : B ≤ w.heap.size) (hd0 : -100000 ≤ deep) (hd : deep ≤ 100000) :
    Calls Tryd.prog 33 #[v, u, .bool t, .int .i64 deep] w fun e w' => e = .returned (.bool true) ∧ Below w.heap.size w w' := by
  cases h with
  | mk es A c f hc hM hA hr =>
    have hlen := likeEs_len hlk
    cases hu with
    | mk bs D d f' hc' hM' hA' hr' =>
    obtain ⟨ne, hne⟩ : ∃ ne, ne = es.length := ⟨_, rfl⟩
    rw [← hlen] at hc' ⊢
    rw [← hne] at hc hc' ⊢
    have hne6 : ne ≤ 9223372036854775807 := Nat.le_trans hc hM
    rw [← hne] at hlen
    have HNE := Lib.hid hne
    have HNB := Lib.hid hlen
    have HLK := Lib.hid hlk
    have HB0 := Lib.hid hb
    have HA1 := Lib.hid hA
    have HA2 := Lib.hid hA'
    have HR1 := Lib.hid hr
    have HR2 := Lib.hid hr'
    clear hne hlen hlk hb hA hr hA' hr'
    go_enter Tryd.func33, Tryd.ntmps33
    go_wp2
    go_loopw [9] (fun i wr => ∃ j : Nat, j ≤ ne ∧ i = .int .i64 j ∧ Hid (Below w.heap.size w wr)) (fun i _ => ne - (intOf i).toNat)
    case atStart => exact ⟨0, Nat.zero_le _, rfl, Lib.hid (Below.refl _ _)⟩
    case round =>
      obtain ⟨wo, rfl⟩ : ∃ wo : World, wo = wr := ⟨_, rfl⟩
      obtain ⟨j, hj, rfl, HBL⟩ := hrel
      by_cases hlt : j < ne
      · have hje : j < es.length := by rw [← HNE.out]; exact hlt
        have hjb : j < bs.length := by rw [← HNB.out]; exact hlt
        obtain ⟨b, off, rfl, hbB, _, p0, p1, p2, p3, p4⟩ := HA1.out j hje
        obtain ⟨b', off', rfl, hbB', _, q0, q1, q2, q3, q4⟩ := HA2.out j hjb
        have hbw : Below B w0 wo := HB0.out.trans (HBL.out.mono hB)
        have hsx : B ≤ wo.heap.size := by have := HBL.out.size; omega
        obtain ⟨l1, l2, l3, l4, l5⟩ := likeE_parts (likeEs_get HLK.out j hje hjb)
        have hcc := sameexL_any (HR1.out j hje) t bs[j].args (f' j) (HR2.out j hjb) l5 es[j].kind es[j].pl bs[j].pl es[j].num deep (strOf es[j].name) wo.drew l2 hbw.drew (by simpa using hsx) (by omega) (by omega)
        have r0 := (hbw.cell (p := ⟨b, off + j * 5, none⟩) hbB).trans p0
        have r1 := (hbw.cell (p := ⟨b, off + j * 5 + 1, none⟩) hbB).trans p1
        have r2 := (hbw.cell (p := ⟨b, off + j * 5 + 2, none⟩) hbB).trans p2
        have r3 := (hbw.cell (p := ⟨b, off + j * 5 + 3, none⟩) hbB).trans p3
        have r4 := (hbw.cell (p := ⟨b, off + j * 5 + 4, none⟩) hbB).trans p4
        have s0 := (hbw.cell (p := ⟨b', off' + j * 5, none⟩) hbB').trans q0
        have s1 := (hbw.cell (p := ⟨b', off' + j * 5 + 1, none⟩) hbB').trans q1
        have s2 := (hbw.cell (p := ⟨b', off' + j * 5 + 2, none⟩) hbB').trans q2
        have s3 := (hbw.cell (p := ⟨b', off' + j * 5 + 3, none⟩) hbB').trans q3
        have s4 := (hbw.cell (p := ⟨b', off' + j * 5 + 4, none⟩) hbB').trans q4
        rw [← l1] at s0
        rw [← l3] at s2
        rw [← l4] at s3
        obtain ⟨yk, hyk⟩ : ∃ x, x = es[j].kind := ⟨_, rfl⟩
        obtain ⟨yp, hyp⟩ : ∃ x, x = es[j].pl := ⟨_, rfl⟩
        obtain ⟨zp, hzp⟩ : ∃ x, x = bs[j].pl := ⟨_, rfl⟩
        obtain ⟨yn, hyn⟩ : ∃ x, x = es[j].num := ⟨_, rfl⟩
        obtain ⟨ys, hys⟩ : ∃ x, x = strOf es[j].name := ⟨_, rfl⟩
        obtain ⟨yv, hyv⟩ : ∃ x, x = f j := ⟨_, rfl⟩
        obtain ⟨zv, hzv⟩ : ∃ x, x = f' j := ⟨_, rfl⟩
        rw [← hyk, ← hyp, ← hzp, ← hyn, ← hys, ← hyv, ← hzv] at hcc
        rw [← hyk] at r0 s0
        rw [← hyp] at r1
        rw [← hzp] at s1
        rw [← hyn] at r2 s2
        rw [← hys] at r3 s3
        rw [← hyv] at r4
        rw [← hzv] at s4
        have HCC := Lib.hid hcc
        clear hcc l1 l2 l3 l4 l5 hyk hyp hzp hyn hys hyv hzv p0 p1 p2 p3 p4 q0 q1 q2 q3 q4 hbw HA1 HA2
        go_wp2
        go_still_tail 10, (by kernel_rfl)
        change wpList _ _ _ _ _ wo.drew
        go_wp2_with (first
          | ((with_reducible refine HCC.out.mono ?_); rintro e w1 ⟨rfl, hb1'⟩))
        have hs1 := hb1'.size
        go_roundw
        case rel => exact ⟨j + 1, by omega, by go_num, Lib.hid ((HBL.out.drew).trans (hb1'.mono (by have h1 := HBL.out.size; simp; omega)))⟩
        case measure => simp [intOf]; omega
      · have hend := HBL.out
        clear HA1 HA2
        go_wp2
        go_ret
        exact ⟨rfl, hend⟩
end Go.Proofs.YtkmpnlbppdekaaaDoor
end
section
set_option linter.unusedVariables false
namespace Go.Proofs.YtkmpnlbppdekaaaDoor
open Go.RowKit
def SamesBL (w0 : World) (B : Nat) (ss : List Sm) (v : Value) : Prop :=
  ∀ (t : Bool) (bs : List Sm) (u : Value), IsSms w0 (· < B) bs u → likeSs t ss bs → ∀ (deep : Int) (w : World), Below B w0 w → B ≤ w.heap.size → -100000 ≤ deep → deep ≤ 100000 →
    Calls Tryd.prog 19 #[v, u, .bool t, .int .i64 deep] w
      fun e w' => e = .returned (.bool true) ∧ Below w.heap.size w w'
set_option maxHeartbeats 4000000 in
set_option maxRecDepth 100000 in
theorem samebL_any {w0 : World} {B : Nat} {ss : List Sm} {v : Value} (h : IsSms w0 (· < B) ss v) : SamesBL w0 B ss v := by
  induction h with
  | mk ss A c fe fb fl hc hM hA he hbd hel ihb ihl =>
    intro t bs u hu hlk deep w hb hB hd0 hd
    have hlen := likeSs_len hlk
    cases hu with
    | mk bs D d fe' fb' fl' hc' hM' hA' he' hbd' hel' =>
    obtain ⟨ns, hns⟩ : ∃ ns, ns = ss.length := ⟨_, rfl⟩
    rw [← hlen] at hc' ⊢
    rw [← hns] at hc hc' ⊢
    have hns6 : ns ≤ 9223372036854775807 := Nat.le_trans hc hM
    rw [← hns] at hlen
    have HNS := Lib.hid hns
    have HNB := Lib.hid hlen
    have HLK := Lib.hid hlk
    have HB0 := Lib.hid hb
    have HE := Lib.hid he
    have HBD := Lib.hid hbd
    have HEL := Lib.hid hel
    have HIB := Lib.hid ihb
    have HIL := Lib.hid ihl
    have HA1 := Lib.hid hA
    have HA2 := Lib.hid hA'
    have HE2 := Lib.hid he'
    have HBD2 := Lib.hid hbd'
    have HEL2 := Lib.hid hel'
    clear hns hlen hlk hb he hbd hel ihb ihl hA hA' he' hbd' hel'
    go_enter Tryd.func19, Tryd.ntmps19
    go_wp2
    go_loopw [9] (fun i wr => ∃ j : Nat, j ≤ ns ∧ i = .int .i64 j ∧ Hid (Below w.heap.size w wr)) (fun i _ => ns - (intOf i).toNat)
    case atStart => exact ⟨0, Nat.zero_le _, rfl, Lib.hid (Below.refl _ _)⟩
    case round =>
      obtain ⟨wo, rfl⟩ : ∃ wo : World, wo = wr := ⟨_, rfl⟩
      obtain ⟨j, hj, rfl, HBL⟩ := hrel
      by_cases hgo : j < ns ∧ 0 < deep
      · obtain ⟨hlt, hdp⟩ := hgo
        have hje : j < ss.length := by rw [← HNS.out]; exact hlt
        have hjb : j < bs.length := by rw [← HNB.out]; exact hlt
        obtain ⟨b, off, rfl, hbB, _, _, p0, p1, p2, p3, p4, p5, p6⟩ := HA1.out j hje
        obtain ⟨b', off', rfl, hbB', _, _, q0, q1, q2, q3, q4, q5, q6⟩ := HA2.out j hjb
        have hbw : Below B w0 wo := HB0.out.trans (HBL.out.mono hB)
        have hsx : B ≤ wo.heap.size := by have := HBL.out.size; omega
        obtain ⟨l1, l2, l3, l4, l5, l6, l7⟩ := likeS_parts (likeSs_get HLK.out j hje hjb)
        have hn := likeEs_len l5
        have hce := HE.out j hje
        have hce2 := HE2.out j hjb
        have hcb := HIB.out j hje t bs[j].body (fb' j) (HBD2.out j hjb) l6
        have hcl := HIL.out j hje t bs[j].els (fl' j) (HEL2.out j hjb) l7
        have hcc : ∀ wx, Below B w0 wx → B ≤ wx.heap.size → Calls Tryd.prog 33 #[fe j, fe' j, .bool t, .int .i64 deep] wx fun e w' => e = .returned (.bool true) ∧ Below wx.heap.size wx w' :=
          fun wx h1 h2 => samesL_any hce hce2 t l5 deep wx h1 h2 hd0 hd
        have r0 := (hbw.cell (p := ⟨b, off + j * 7, none⟩) hbB).trans p0
        have r1 := (hbw.cell (p := ⟨b, off + j * 7 + 1, none⟩) hbB).trans p1
        have r2 := (hbw.cell (p := ⟨b, off + j * 7 + 2, none⟩) hbB).trans p2
        have r3 := (hbw.cell (p := ⟨b, off + j * 7 + 3, none⟩) hbB).trans p3
        have r4 := (hbw.cell (p := ⟨b, off + j * 7 + 4, none⟩) hbB).trans p4
        have r5 := (hbw.cell (p := ⟨b, off + j * 7 + 5, none⟩) hbB).trans p5
        have r6 := (hbw.cell (p := ⟨b, off + j * 7 + 6, none⟩) hbB).trans p6
        have s0 := (hbw.cell (p := ⟨b', off' + j * 7, none⟩) hbB').trans q0
        have s1 := (hbw.cell (p := ⟨b', off' + j * 7 + 1, none⟩) hbB').trans q1
        have s2 := (hbw.cell (p := ⟨b', off' + j * 7 + 2, none⟩) hbB').trans q2
        have s3 := (hbw.cell (p := ⟨b', off' + j * 7 + 3, none⟩) hbB').trans q3
        have s4 := (hbw.cell (p := ⟨b', off' + j * 7 + 4, none⟩) hbB').trans q4
        have s5 := (hbw.cell (p := ⟨b', off' + j * 7 + 5, none⟩) hbB').trans q5
        have s6 := (hbw.cell (p := ⟨b', off' + j * 7 + 6, none⟩) hbB').trans q6
        rw [← l1] at s0
        rw [← l3] at s2
        rw [← l4] at s3
        obtain ⟨yk, hyk⟩ : ∃ x, x = ss[j].kind := ⟨_, rfl⟩
        obtain ⟨yp, hyp⟩ : ∃ x, x = ss[j].pl := ⟨_, rfl⟩
        obtain ⟨zp, hzp⟩ : ∃ x, x = bs[j].pl := ⟨_, rfl⟩
        obtain ⟨yn, hyn⟩ : ∃ x, x = strOf ss[j].name := ⟨_, rfl⟩
        obtain ⟨yt, hyt⟩ : ∃ x, x = strOf ss[j].type := ⟨_, rfl⟩
        obtain ⟨A1, m1, d1, hye⟩ : ∃ A n c, fe j = .slice A n c := by
          obtain ⟨A, c, h, -⟩ := hce.slice
          exact ⟨A, _, c, h⟩
        obtain ⟨A2, m2, d2, hyb⟩ : ∃ A n c, fb j = .slice A n c := by
          obtain ⟨A, c, h, -⟩ := (HBD.out j hje).slice
          exact ⟨A, _, c, h⟩
        obtain ⟨A3, m3, d3, hyl⟩ : ∃ A n c, fl j = .slice A n c := by
          obtain ⟨A, c, h, -⟩ := (HEL.out j hje).slice
          exact ⟨A, _, c, h⟩
        obtain ⟨C1, n1, c1, hze⟩ : ∃ A n c, fe' j = .slice A n c := by
          obtain ⟨A, c, h, -⟩ := hce2.slice
          exact ⟨A, _, c, h⟩
        obtain ⟨C2, n2, c2, hzb⟩ : ∃ A n c, fb' j = .slice A n c := by
          obtain ⟨A, c, h, -⟩ := (HBD2.out j hjb).slice
          exact ⟨A, _, c, h⟩
        obtain ⟨C3, n3, c3, hzl⟩ : ∃ A n c, fl' j = .slice A n c := by
          obtain ⟨A, c, h, -⟩ := (HEL2.out j hjb).slice
          exact ⟨A, _, c, h⟩
        rw [← hyp, ← hzp] at l2
        rw [hye, hze] at hcc
        rw [hzb] at hcb
        rw [hzl] at hcl
        rw [hyb] at hcb
        rw [hyl] at hcl
        rw [← hyk] at r0 s0
        rw [← hyp] at r1
        rw [← hzp] at s1
        rw [← hyn] at r2 s2
        rw [← hyt] at r3 s3
        rw [hye] at r4
        rw [hze] at s4
        rw [hyb] at r5
        rw [hzb] at s5
        rw [hyl] at r6
        rw [hzl] at s6
        have a0 : ∀ o, (wo.alloc o).cell? ⟨b', off' + j * 7, none⟩ = _ := fun o => (((Below.refl _ wo).alloc (Nat.le_refl _) o).cell (p := ⟨b', off' + j * 7, none⟩) (show b' < wo.heap.size by omega)).trans s0
        have a1 : ∀ o, (wo.alloc o).cell? ⟨b', off' + j * 7 + 1, none⟩ = _ := fun o => (((Below.refl _ wo).alloc (Nat.le_refl _) o).cell (p := ⟨b', off' + j * 7 + 1, none⟩) (show b' < wo.heap.size by omega)).trans s1
        have a2 : ∀ o, (wo.alloc o).cell? ⟨b', off' + j * 7 + 2, none⟩ = _ := fun o => (((Below.refl _ wo).alloc (Nat.le_refl _) o).cell (p := ⟨b', off' + j * 7 + 2, none⟩) (show b' < wo.heap.size by omega)).trans s2
        have a3 : ∀ o, (wo.alloc o).cell? ⟨b', off' + j * 7 + 3, none⟩ = _ := fun o => (((Below.refl _ wo).alloc (Nat.le_refl _) o).cell (p := ⟨b', off' + j * 7 + 3, none⟩) (show b' < wo.heap.size by omega)).trans s3
        have a4 : ∀ o, (wo.alloc o).cell? ⟨b', off' + j * 7 + 4, none⟩ = _ := fun o => (((Below.refl _ wo).alloc (Nat.le_refl _) o).cell (p := ⟨b', off' + j * 7 + 4, none⟩) (show b' < wo.heap.size by omega)).trans s4
        have a5 : ∀ o, (wo.alloc o).cell? ⟨b', off' + j * 7 + 5, none⟩ = _ := fun o => (((Below.refl _ wo).alloc (Nat.le_refl _) o).cell (p := ⟨b', off' + j * 7 + 5, none⟩) (show b' < wo.heap.size by omega)).trans s5
        have a6 : ∀ o, (wo.alloc o).cell? ⟨b', off' + j * 7 + 6, none⟩ = _ := fun o => (((Below.refl _ wo).alloc (Nat.le_refl _) o).cell (p := ⟨b', off' + j * 7 + 6, none⟩) (show b' < wo.heap.size by omega)).trans s6
        have HCC := Lib.hid hcc
        have HCB := Lib.hid hcb
        have HCL := Lib.hid hcl
        have HL2 := Lib.hid l2
        have hx1 := SmBlk.new wo yk yp yn yt (.slice A1 m1 d1) (.slice A2 m2 d2) (.slice A3 m3 d3)
        have hx2 := SmBlk.new (wo.alloc (.cells #[.int .i64 yk, .int .i64 yp, .string yn, .string yt, .slice A1 m1 d1, .slice A2 m2 d2, .slice A3 m3 d3] 40)) yk zp yn yt (.slice C1 n1 c1) (.slice C2 n2 c2) (.slice C3 n3 c3)
        clear s0 s1 s2 s3 s4 s5 s6 l1 l2 l3 l4 l5 l6 l7 hn hce hce2 hcc hcb hcl hyk hyp hzp hyn hyt hye hyb hyl hze hzb hzl p0 p1 p2 p3 p4 p5 p6 q0 q1 q2 q3 q4 q5 q6 HA1 HA2 HIB HIL HE HE2 HBD2 HEL2 HBD HEL
        have e2 : (yn.toList != yn.toList) = false := by simp
        have e3 : (yt.toList != yt.toList) = false := by simp
        cases t
        all_goals
          first
          | (have hq1 : yp = zp := HL2.out rfl
             subst hq1)
          | skip
          clear HL2
          go_wp2_with fail
          generalize hX : World.alloc (World.alloc wo (.cells #[.int .i64 yk, .int .i64 yp, .string yn, .string yt, .slice A1 m1 d1, .slice A2 m2 d2, .slice A3 m3 d3] 40)) (.cells #[.int .i64 yk, .int .i64 _, .string yn, .string yt, .slice C1 n1 c1, .slice C2 n2 c2, .slice C3 n3 c3] 40) = X at hx2 ⊢
          have hxs : X.heap.size = wo.heap.size + 2 := by rw [← hX]; simp
          have hxb : Below wo.heap.size wo X := by rw [← hX]; exact ((Below.refl _ wo).alloc (Nat.le_refl _) _).alloc (by simp) _
          have h1 : SmBlk X wo.heap.size yk yp yn yt (.slice A1 m1 d1) (.slice A2 m2 d2) (.slice A3 m3 d3) := by
            rw [← hX]; exact hx1.below ((Below.refl _ _).alloc (Nat.le_refl _) _) (by simp)
          have hsz : (wo.alloc (.cells #[.int .i64 yk, .int .i64 yp, .string yn, .string yt, .slice A1 m1 d1, .slice A2 m2 d2, .slice A3 m3 d3] 40)).heap.size = wo.heap.size + 1 := by simp
          rw [hsz] at hx2
          clear hsz hx1 hX
          refine (HCC.out X (hbw.trans (hxb.mono hsx)) (by omega)).mono ?_
          rintro e w1 ⟨rfl, hb1⟩
          have hs1 := hb1.size
          have g1 := h1.below hb1 (by omega)
          have g2 := hx2.below hb1 (by omega)
          have y0 := g1.c0
          have y5 := g1.c5
          have y6 := g1.c6
          have z0 := g2.c0
          have z5 := g2.c5
          have z6 := g2.c6
          have hxb1 := hxb.trans (hb1.mono (by omega))
          clear h1 hx2 hb1 hxb a0 a1 a2 a3 a4 a5 a6 r0 r1 r2 r3 r4 r5 r6
          go_wp2_with fail
          refine (HCB.out (deep - 1) w1 (hbw.trans (hxb1.mono hsx)) (by omega) (by omega) (by omega)).mono ?_
          rintro e w2 ⟨rfl, hb2⟩
          have hs2 := hb2.size
          have f1 := g1.below hb2 (by omega)
          have f2 := g2.below hb2 (by omega)
          clear y0 y5 y6 z0 z5 z6 g1 g2
          have y0 := f1.c0
          have y6 := f1.c6
          have z0 := f2.c0
          have z6 := f2.c6
          have hxb2 := hxb1.trans (hb2.mono (by omega))
          clear hb2 hxb1
          go_wp2_with fail
          refine (HCL.out (deep - 1) w2 (hbw.trans (hxb2.mono hsx)) (by omega) (by omega) (by omega)).mono ?_
          rintro e w3 ⟨rfl, hb3⟩
          have hs3 := hb3.size
          have hxb3 := hxb2.trans (hb3.mono (by omega))
          clear hb3 hxb2 f1 f2 y0 y6 z0 z6
          go_wp2_with fail
          go_roundw
          case rel => exact ⟨j + 1, by omega, by go_num, Lib.hid (HBL.out.trans (hxb3.mono (by have := HBL.out.size; omega)))⟩
          case measure => simp [intOf]; omega
      · have hcase : j = ns ∨ (j < ns ∧ deep ≤ 0) := by
          rcases Nat.lt_or_ge j ns with h | h
          · exact .inr ⟨h, by
              rcases Int.lt_or_le 0 deep with h2 | h2
              · exact absurd ⟨h, h2⟩ hgo
              · exact h2⟩
          · exact .inl (by omega)
        have hend := HBL.out
        clear hgo HA1 HA2 HIB HIL HE HE2 HBD2 HEL2 HBD HEL
        rcases hcase with h | ⟨h, h'⟩
        all_goals
          go_wp2
          go_ret
          exact ⟨rfl, hend⟩
end Go.Proofs.YtkmpnlbppdekaaaDoor
end
section
set_option linter.unusedVariables false
namespace Go.Proofs.YtkmpnlbppdekaaaDoor
open Go.RowKit
def OneBlk (w : World) (g : Nat) (u : Value) : Prop := w.heap[g]? = some (.cells #[u] 25 (0, 0))
section
variable {w w' : World} {g B : Nat} {u : Value}
theorem OneBlk.new (w : World) (u : Value) : OneBlk (w.alloc (.cells #[u] 25)) w.heap.size u := heap_alloc_new w _
theorem OneBlk.below (h : OneBlk w g u) (hb : Below B w w') (hg : g < B) : OneBlk w' g u := (hb.block g hg).trans h
theorem OneBlk.c0 (h : OneBlk w g u) : w.cell? ⟨g, 0, none⟩ = some u := by rw [cell_of_row w g 0 _ _ (0, 0) h]; rfl
theorem OneBlk.set (h : OneBlk w g u) (x : Value) : OneBlk (w.setCell ⟨g, 0, none⟩ x) g x := by
  unfold OneBlk at h ⊢
  simp [World.setCell, Array.getElem?_modify, h]
end
end Go.Proofs.YtkmpnlbppdekaaaDoor
end
