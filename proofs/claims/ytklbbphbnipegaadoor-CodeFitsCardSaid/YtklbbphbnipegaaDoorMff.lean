/- A copy of code that is changed at one place: what code it then is. -/
import Derived.Test.YtklbbphbnipegaaDoorMdo
import Derived.Test.YtklbbphbnipegaaDoorMex
import Derived.Test.YtklbbphbnipegaaDoorMew
set_option linter.unusedVariables false
set_option linter.unusedSimpArgs false
namespace Go.Proofs.YtklbbphbnipegaaDoor
open Go.RowKit

theorem OwnH.nil {α : Type} {E : Kd α} (e : TypeId) (w : World) (lo hi : Nat) : OwnH E e w lo hi [] (.slice none 0 0) := by
  refine ⟨[], rfl, by simp, World.ownsRow_nil _ _ _ _, ?_, fun k hk => absurd hk (by simp)⟩
  intro b hb
  simp [Value.ownBlock] at hb
theorem Own8.setm {w : World} {lo hi : Nat → Nat} {m : Mo} {v : Vm} (h : Own8 w lo hi m v) (fs : List Fn) : Own8 w lo hi { m with funcs := fs } v := ⟨h.nx, h.le, h.g, h.s, h.c, h.l, h.i, h.o, h.h, h.t⟩
section
variable {w : World} {B Q : Nat} {m : Mo} {v : Vm} {lo hi : Nat → Nat} {H : Nat} {T : List FnT}
/-- one cell of an operation -/
theorem CpMo.putO (h : CpMo w B Q m v lo hi H T) (i : Nat) (hi' : i < m.funcs.length) (k : Nat) (hk : k < m.funcs[i].code.length) (j : Nat) (hj : j < 12) (u : Value) (O' : Opx) {F cap : Nat} {cv : Value} {C n capC : Nat} {nf : Nat}
    (hvf : v.f = .slice (some ⟨F, 0, none⟩) nf cap) (hat : w.cell? ⟨F, i * 5 + 4, none⟩ = some cv) (hcv : cv = .slice (some ⟨C, 0, none⟩) n capC)
    (hrow : ∀ va, (opRow m.funcs[i].code[k] va).set j u = opRow O' va) (hargs : O'.args = m.funcs[i].code[k].args) (hin : m.funcs[i].code[k].In → O'.In) :
    ∃ T', CpMo (w.setCell ⟨C, k * 12 + j, none⟩ u) B Q (setO m i k m.funcs[i] O') v lo hi H T' := by
  have hT : i < T.length := by rw [h.len]; exact hi'
  have hfn := h.fnIs hi' hT
  obtain ⟨F1, cap1, cv1, hv1, hHF, hFs, hFn, hat1, -, hcode, hmap, hint, hfin⟩ := h.fn i hi' hT
  have hk' : k < T[i].ops.length := by
    have := congrArg List.length hmap
    rw [List.length_map] at this
    omega
  obtain ⟨C1, capC1, va1, hcv1, hlC, hCh, -, -, -, -, -, hop⟩ := opH_at hcode hmap k hk hk'
  have eF : F1 = F := by rw [hv1] at hvf; injection hvf with e1; injection e1 with e1; injection e1
  subst eF
  have ec : cv1 = cv := by have := hat1.c4; rw [hat] at this; exact (Option.some.inj this).symm
  subst ec
  have eC : C1 = C := by rw [hcv1] at hcv; injection hcv with e1; injection e1 with e1; injection e1
  subst eC
  have hHC := hint C1 hlC hCh
  have ha := h.e8.all
  have hoth : ∀ b, b ≠ C1 → (w.setCell ⟨C1, k * 12 + j, none⟩ u).heap[b]? = w.heap[b]? := fun b hb => Below.heap_setCell _ _ _ b hb
  obtain ⟨hf', hap'⟩ := ownH_deep (w' := w.setCell ⟨C1, k * 12 + j, none⟩ u) h.f h.ap i hT ⟨{ m.funcs[i] with code := m.funcs[i].code.set k O' }, T[i].ops.set k ⟨O', T[i].ops[k].lo, T[i].ops[k].hi⟩, T[i].lo, T[i].hi⟩ rfl rfl (fun b hb hb2 hn => hoth b (fun e => hn (by subst e; exact ⟨hlC, hCh⟩))) hv1 (fun S cs hq hc => by
    obtain ⟨va, h1, h2, h3, h4, h5, h6⟩ := hq
    have e4 := hc 4 (by omega)
    rw [hat, h1] at e4
    have e5 : va = cv1 := by simpa [fnRow] using e4.symm
    subst e5
    refine ⟨va, by rw [h1, hfn]; rfl, ?_, ?_, ?_, h5, ?_⟩
    · exact ownH_putO h2 k hk' j hj u O' hcv1 (by rw [hop]; exact hrow) (by rw [hop]; exact hargs) (by rw [hop]; exact hin)
    · show (T[i].ops.set k _).map OpT.op = m.funcs[i].code.set k O'
      rw [map_set_op, hmap]
    · exact pair_set h4 hk' (fun b hb => hb) (fun b hb => hb)
    · rw [hfn] at h6
      exact ⟨h6.name, h6.params, h6.regs, h6.result⟩)
  refine ⟨_, (h.e8.keep (fun q hq b hb hb2 => hoth b (by have := ha q hq; have := h.mid; omega))).setm _, h.low, h.mid, h.top, ?_, hap', hf'⟩
  rw [map_set_fn, h.fns]
  rfl
/-- one cell of a function's row -/
theorem CpMo.putF (h : CpMo w B Q m v lo hi H T) (i : Nat) (hi' : i < m.funcs.length) (j : Nat) (hj : j < 5) (u : Value) (f' : Fn) {F cap nf : Nat} (ops' : List OpT)
    (hvf : v.f = .slice (some ⟨F, 0, none⟩) nf cap)
    (hQ : ∀ (w' : World) (T1 : FnT) (va : Value), (∀ b, T1.lo ≤ b → b < T1.hi → w'.heap[b]? = w.heap[b]?) → T1.fn = m.funcs[i] → OwnH KOt 42 w T1.lo T1.hi T1.ops va → T1.ops.map OpT.op = T1.fn.code → ApO T1.ops → T[i]? = some T1 → ∃ va', (fnRow m.funcs[i] va).set j u = fnRow f' va' ∧ OwnH KOt 42 w' T1.lo T1.hi ops' va' ∧ ops'.map OpT.op = f'.code ∧ ApO ops') (hin : m.funcs[i].In → f'.In) :
    ∃ T', CpMo (w.setCell ⟨F, i * 5 + j, none⟩ u) B Q (setF m i f') v lo hi H T' := by
  have hT : i < T.length := by rw [h.len]; exact hi'
  have hfn := h.fnIs hi' hT
  obtain ⟨F1, cap1, cv1, hv1, hHF, hFs, hFn, -, -, -, -, -, -⟩ := h.fn i hi' hT
  have eF : F1 = F := by rw [hv1] at hvf; injection hvf with e1; injection e1 with e1; injection e1
  subst eF
  have ha := h.e8.all
  have hoth : ∀ b, b ≠ F1 → (w.setCell ⟨F1, i * 5 + j, none⟩ u).heap[b]? = w.heap[b]? := fun b hb => Below.heap_setCell _ _ _ b hb
  have hs : (w.setCell ⟨F1, i * 5 + j, none⟩ u).heap.size = w.heap.size := by simp
  have hf' := OwnH.put (E := KFt) h.f i hT j hj u ⟨f', ops', T[i].lo, T[i].hi⟩ hv1 (fun w' row hsame hq => by
    obtain ⟨va, h1, h2, h3, h4, h5, h6⟩ := hq
    have h3' := h3
    rw [hfn] at h1 h6
    obtain ⟨va', k1, k2, k3, k4⟩ := hQ w' T[i] va (fun b hb hb2 => hsame b (h5 b hb hb2).2.2) hfn h2 h3 h4 (List.getElem?_eq_getElem hT)
    exact ⟨va', by rw [h1]; exact k1, k2, k3, k4, h5, hin h6⟩)
  rw [show (KFt).sz = 5 from rfl] at hf'
  refine ⟨T.set i ⟨f', ops', T[i].lo, T[i].hi⟩, (h.e8.keep (fun q hq b hb hb2 => hoth b (by have := ha q hq; have := h.mid; omega))).setm _, h.low, h.mid, h.top, ?_, pair_set h.ap hT (fun b hb => hb) (fun b hb => hb), hf'⟩
  rw [map_set_fn, h.fns]
  rfl
theorem CpMo.putName (h : CpMo w B Q m v lo hi H T) (i : Nat) (hi' : i < m.funcs.length) (nm : List UInt8) (hn : nm.length ≤ 140737488355328) {F cap nf : Nat} (hvf : v.f = .slice (some ⟨F, 0, none⟩) nf cap) :
    ∃ T', CpMo (w.setCell ⟨F, i * 5, none⟩ (.string (bs nm))) B Q (setF m i { m.funcs[i] with name := nm }) v lo hi H T' := by
  have hT : i < T.length := by rw [h.len]; exact hi'
  have := h.putF i hi' 0 (by omega) (.string (bs nm)) { m.funcs[i] with name := nm } T[i].ops hvf (fun w' T1 va hs hf ho hm hap hti => by
    rw [List.getElem?_eq_getElem hT] at hti
    obtain rfl := Option.some.inj hti
    exact ⟨va, rfl, ho.keep hs, by rw [hm, hf], hap⟩) (fun h => ⟨hn, h.params, h.regs, h.result⟩)
  exact this
theorem CpMo.putResult (h : CpMo w B Q m v lo hi H T) (i : Nat) (hi' : i < m.funcs.length) (r : Int) (hr : In64 r) {F cap nf : Nat} (hvf : v.f = .slice (some ⟨F, 0, none⟩) nf cap) :
    ∃ T', CpMo (w.setCell ⟨F, i * 5 + 3, none⟩ (.int .i64 r)) B Q (setF m i { m.funcs[i] with result := r }) v lo hi H T' := by
  have hT : i < T.length := by rw [h.len]; exact hi'
  exact h.putF i hi' 3 (by omega) (.int .i64 r) { m.funcs[i] with result := r } T[i].ops hvf (fun w' T1 va hs hf ho hm hap hti => by
    rw [List.getElem?_eq_getElem hT] at hti
    obtain rfl := Option.some.inj hti
    exact ⟨va, rfl, ho.keep hs, by rw [hm, hf], hap⟩) (fun h => ⟨h.name, h.params, h.regs, hr⟩)
theorem CpMo.putNone (h : CpMo w B Q m v lo hi H T) (i : Nat) (hi' : i < m.funcs.length) {F cap nf : Nat} (hvf : v.f = .slice (some ⟨F, 0, none⟩) nf cap) :
    ∃ T', CpMo (w.setCell ⟨F, i * 5 + 4, none⟩ (.slice none 0 0)) B Q (setF m i { m.funcs[i] with code := [] }) v lo hi H T' := by
  exact h.putF i hi' 4 (by omega) (.slice none 0 0) { m.funcs[i] with code := [] } [] hvf (fun w' T1 va hs hf ho hm hap hti =>
    ⟨.slice none 0 0, rfl, OwnH.nil _ _ _ _, rfl, List.Pairwise.nil⟩) (fun h => ⟨h.name, h.params, h.regs, h.result⟩)
/-- a lock's name -/
theorem CpMo.putLock (h : CpMo w B Q m v lo hi H T) (i : Nat) (hi' : i < m.locks.length) (nm : List UInt8) (hn : nm.length ≤ 140737488355328) {L cap nf : Nat} (hvl : v.l = .slice (some ⟨L, 0, none⟩) nf cap) :
    CpMo (w.setCell ⟨L, i, none⟩ (.string (bs nm))) B Q { m with locks := m.locks.set i nm } v lo hi H T := by
  have ha := h.e8.all
  have hl := OwnH.put (E := KT) h.e8.l i hi' 0 (by decide) (.string (bs nm)) nm hvl (fun w' row hs hq => by
    obtain ⟨h1, h2⟩ := hq
    exact ⟨by rw [h1]; rfl, hn⟩)
  rw [show (KT).sz = 1 from rfl, Nat.mul_one, Nat.add_zero] at hl
  obtain ⟨L1, cap1, row, hv1, -, hlL, hLh, -⟩ := h.e8.l.at_ i hi'
  have eL : L1 = L := by rw [hv1] at hvl; injection hvl with e1; injection e1 with e1; injection e1
  subst eL
  have hoth : ∀ b, b ≠ L1 → (w.setCell ⟨L1, i, none⟩ (.string (bs nm))).heap[b]? = w.heap[b]? := fun b hb => Below.heap_setCell _ _ _ b hb
  have e := h.e8
  have n0 : hi 0 ≤ lo 1 := e.nx 0 (by omega)
  have n1 : hi 1 ≤ lo 2 := e.nx 1 (by omega)
  have n2 : hi 2 ≤ lo 3 := e.nx 2 (by omega)
  have n3 : hi 3 ≤ lo 4 := e.nx 3 (by omega)
  have n4 : hi 4 ≤ lo 5 := e.nx 4 (by omega)
  have n5 : hi 5 ≤ lo 6 := e.nx 5 (by omega)
  have n6 : hi 6 ≤ lo 7 := e.nx 6 (by omega)
  have l0 := e.le 0 (by omega)
  have l1 := e.le 1 (by omega)
  have l2 := e.le 2 (by omega)
  have l4 := e.le 4 (by omega)
  have l5 := e.le 5 (by omega)
  have l6 := e.le 6 (by omega)
  have l7 := e.le 7 (by omega)
  have hm := h.mid
  exact ⟨⟨e.nx, e.le, e.g.keep (fun b _ _ => hoth b (by omega)), e.s.keep (fun b _ _ => hoth b (by omega)), e.c.keep (fun b _ _ => hoth b (by omega)), hl, e.i.keep (fun b _ _ => hoth b (by omega)), e.o.keep (fun b _ _ => hoth b (by omega)), e.h.keep (fun b _ _ => hoth b (by omega)), e.t.keep (fun b _ _ => hoth b (by omega))⟩,
    h.low, h.mid, h.top, h.fns, h.ap, h.f.keep (fun b hb _ => hoth b (by omega))⟩

/-- the list of operations, one of which is another one with other arguments -/
theorem lies_putO {w w' : World} {S' : Nat → Prop} {lo hi : Nat} {ts : List OpT} {cv : Value} {xs : List Opx} (h : OwnH KOt 42 w lo hi ts cv) (hm : ts.map OpT.op = xs) (hap : ApO ts) (k : Nat) (hk : k < xs.length) (hk' : k < ts.length) (O' : Opx) (va' : Value) {C n cap : Nat}
    (hcv : cv = .slice (some ⟨C, 0, none⟩) n cap)
    (hC : ∀ l j, l ≠ k → l < xs.length → j < 12 → w'.cell? ⟨C, l * 12 + j, none⟩ = w.cell? ⟨C, l * 12 + j, none⟩)
    (hrow : ∀ j, j < 12 → w'.cell? ⟨C, k * 12 + j, none⟩ = (opRow O' va')[j]?)
    (hoth : ∀ b, lo ≤ b → b < hi → b ≠ C → ¬ (ts[k].lo ≤ b ∧ b < ts[k].hi) → w'.heap[b]? = w.heap[b]?)
    (hargs : Lies KI w' S' O'.args va') (hin : O'.In) (hS : ∀ b, lo ≤ b → b < hi → S' b) : Lies KO w' S' (xs.set k O') cv := by
  have hlen : ts.length = xs.length := by rw [← hm, List.length_map]
  obtain ⟨rows, hl, hM, hown, hbb, hq⟩ := h
  have hlens := OwnL.lens (e := 42) (base := lo) hl hq
  rcases hown.2 with ⟨-, h0⟩ | ⟨C1, cap1, cur, hv, hbg, hg, hc1, hc2, _⟩
  · omega
  · have eC : C1 = C := by rw [hv] at hcv; injection hcv with e1; injection e1 with e1; injection e1
    subst eC
    have hob : cv.ownBlock = some C1 := by rw [hv]; rfl
    refine ⟨some ⟨C1, 0, none⟩, cap1, fun l => if l = k then opRow O' va' else rows[l]?.getD [], by rw [List.length_set, ← hlen]; exact hv, by rw [List.length_set]; omega, by unfold maxLen at hc2; omega, by rw [List.length_set]; omega, fun l hl2 => ?_⟩
    rw [List.length_set] at hl2
    refine ⟨C1, 0, rfl, hS C1 hbg (hbb C1 hob), ?_, fun j hj => ?_⟩
    · by_cases e : l = k
      · subst e
        rw [List.getElem_set_self]
        dsimp only
        rw [if_pos rfl]
        exact ⟨va', rfl, hargs, hin⟩
      · rw [List.getElem_set_ne (by omega)]
        dsimp only
        rw [if_neg e, List.getElem?_eq_getElem (by omega : l < rows.length), Option.getD_some]
        have hql := hq l (by omega) (by omega)
        have hop : ts[l].op = xs[l] := by
          have : (ts.map OpT.op)[l]? = xs[l]? := by rw [hm]
          rw [List.getElem?_map, List.getElem?_eq_getElem (by omega : l < ts.length), List.getElem?_eq_getElem hl2] at this
          exact Option.some.inj this
        rw [← hop]
        obtain ⟨va, h1, h2, h3, h4⟩ := hql
        have h2' := h2.keep (w' := w') (fun b hb hb2 => by
          have hb3 := h3 b hb hb2
          refine hoth b hb3.1 hb3.2.1 (fun e => hb3.2.2 (by rw [hob, e])) (fun hin2 => ?_)
          unfold ApO at hap
          rw [List.pairwise_iff_getElem] at hap
          rcases Nat.lt_or_gt_of_ne e with hlt | hgt
          · have := hap l k (by omega) hk' hlt; omega
          · have := hap k l hk' (by omega) hgt; omega)
        exact ⟨va, h1, h2'.lies.keep (fun _ _ => rfl) (fun b hb => hS b (h3 b hb.1 hb.2).1 (h3 b hb.1 hb.2).2.1), h4⟩
    · rw [Nat.zero_add]
      by_cases e : l = k
      · subst e
        dsimp only
        rw [if_pos rfl]
        exact hrow j hj
      · dsimp only
        rw [if_neg e, List.getElem?_eq_getElem (by omega : l < rows.length), Option.getD_some]
        show w'.cell? ⟨C1, l * 12 + j, none⟩ = _
        have hz : j < rows[l].length := by rw [hlens _ (List.getElem_mem (by omega))]; exact hj
        have k1 := flat_get hlens l (by omega) j hj
        rw [List.getElem?_eq_getElem hz] at k1
        have := hown.cells (g := C1) hob (l * 12 + j) _ k1
        rw [add_none, Nat.zero_add] at this
        rw [hC l j e hl2 hj, List.getElem?_eq_getElem hz]
        exact this
/-- the list of functions, one of which has other code -/
theorem CpMo.liesF {w' : World} {S' : Nat → Prop} (h : CpMo w B Q m v lo hi H T) (i : Nat) (hi' : i < m.funcs.length) (hT : i < T.length) {F n cap : Nat} {cv : Value} (hvf : v.f = .slice (some ⟨F, 0, none⟩) n cap) (hat : w.cell? ⟨F, i * 5 + 4, none⟩ = some cv)
    (hF : w'.heap[F]? = w.heap[F]?) (hoth : ∀ b, H ≤ b → b < Q → ¬ (T[i].lo ≤ b ∧ b < T[i].hi) → w'.heap[b]? = w.heap[b]?) (code' : List Opx) (hcode : Lies KO w' S' code' cv) (hS : ∀ b, H ≤ b → b < Q → S' b) :
    Lies KF w' S' (m.funcs.set i { m.funcs[i] with code := code' }) v.f := by
  have hlen := h.len
  have hfn : ∀ l (h1 : l < m.funcs.length) (h2 : l < T.length), T[l].fn = m.funcs[l] := fun l h1 h2 => h.fnIs h1 h2
  have hap := h.ap
  obtain ⟨rows, hl, hM, hown, hbQ, hq⟩ := h.f
  have hlens := OwnL.lens (e := 39) (base := H) hl hq
  rcases hown.2 with ⟨-, h0⟩ | ⟨F1, cap1, cur, hv, hbg, hg, hc1, hc2, _⟩
  · omega
  · have eF : F1 = F := by rw [hv] at hvf; injection hvf with e1; injection e1 with e1; injection e1
    subst eF
    have hob : v.f.ownBlock = some F1 := by rw [hv]; rfl
    have hcells : ∀ l (h1 : l < rows.length) j, j < 5 → w.cell? ⟨F1, l * 5 + j, none⟩ = rows[l][j]? := fun l h1 j hj => by
      have hz : j < rows[l].length := by rw [hlens _ (List.getElem_mem h1)]; exact hj
      have k1 := flat_get hlens l h1 j hj
      rw [List.getElem?_eq_getElem hz] at k1
      have := hown.cells (g := F1) hob (l * 5 + j) _ k1
      rw [add_none, Nat.zero_add] at this
      rw [List.getElem?_eq_getElem hz]
      exact this
    refine ⟨some ⟨F1, 0, none⟩, cap1, fun l => rows[l]?.getD [], by rw [List.length_set, ← hlen]; exact hv, by rw [List.length_set]; omega, by unfold maxLen at hc2; omega, by rw [List.length_set]; omega, fun l hl2 => ?_⟩
    rw [List.length_set] at hl2
    refine ⟨F1, 0, rfl, hS F1 hbg (hbQ F1 hob), ?_, fun j hj => ?_⟩
    · dsimp only
      rw [List.getElem?_eq_getElem (by omega : l < rows.length), Option.getD_some]
      obtain ⟨va, h1, h2, h3, h4, h5, h6⟩ := hq l (by omega) (by omega)
      have hfl := hfn l hl2 (by omega)
      by_cases e : l = i
      · subst e
        rw [List.getElem_set_self]
        have e4 := hcells l (by omega) 4 (by omega)
        rw [hat, h1] at e4
        have e5 : va = cv := by simpa [fnRow] using e4.symm
        subst e5
        rw [hfl] at h1 h6
        exact ⟨va, h1, hcode, ⟨h6.name, h6.params, h6.regs, h6.result⟩⟩
      · rw [List.getElem_set_ne (by omega), ← hfl]
        have hqk : KFt.Q w' (fun b => H ≤ b ∧ b < Q) T[l] rows[l] := by
          refine ⟨va, h1, h2.keep (fun b hb hb2 => ?_), h3, h4, fun b hb hb2 => ⟨(h5 b hb hb2).1, (h5 b hb hb2).2.1⟩, h6⟩
          have hb3 := h5 b hb hb2
          refine hoth b hb3.1 hb3.2.1 (fun hin => ?_)
          unfold ApF at hap
          rw [List.pairwise_iff_getElem] at hap
          rcases Nat.lt_or_gt_of_ne e with hlt | hgt
          · have := hap l i (by omega) hT hlt; omega
          · have := hap i l hT (by omega) hgt; omega
        exact KF.keep (KFt.plain hqk) (fun _ _ => rfl) (fun b hb => hS b hb.1 hb.2)
    · dsimp only
      rw [Nat.zero_add, List.getElem?_eq_getElem (by omega : l < rows.length), Option.getD_some]
      show w'.cell? ⟨F1, l * 5 + j, none⟩ = _
      rw [World.cell?_of_block hF]
      exact hcells l (by omega) j hj
end

end Go.Proofs.YtklbbphbnipegaaDoor
