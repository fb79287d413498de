/- A copy of code that is changed at one place. -/
import Derived.Test.YtklbbphbnipegaaDoorMdj
set_option linter.unusedVariables false
set_option linter.unusedSimpArgs false
namespace Go.Proofs.YtklbbphbnipegaaDoor
open Go.RowKit

theorem pair_set {α : Type} {R : α → α → Prop} {l : List α} {k : Nat} {a : α} (h : l.Pairwise R) (hk : k < l.length) (h1 : ∀ b, R l[k] b → R a b) (h2 : ∀ b, R b l[k] → R b a) : (l.set k a).Pairwise R := by
  rw [List.pairwise_iff_getElem] at h ⊢
  intro i j hi hj hij
  rw [List.length_set] at hi hj
  by_cases e1 : k = i
  · subst e1
    rw [List.getElem_set_self, List.getElem_set_ne (by omega)]
    exact h1 _ (h k j hk hj hij)
  · by_cases e2 : k = j
    · subst e2
      rw [List.getElem_set_self, List.getElem_set_ne (by omega)]
      exact h2 _ (h i k hi hk hij)
    · rw [List.getElem_set_ne e1, List.getElem_set_ne e2]
      exact h i j hi hj hij
theorem map_set_op {ts : List OpT} {k : Nat} {t : OpT} : (ts.set k t).map OpT.op = (ts.map OpT.op).set k t.op := by rw [List.map_set]
theorem map_set_fn {ts : List FnT} {k : Nat} {t : FnT} : (ts.set k t).map FnT.fn = (ts.map FnT.fn).set k t.fn := by rw [List.map_set]

/-- an operation of a list of one's own is changed in one cell -/
theorem ownH_putO {w : World} {lo hi : Nat} {ts : List OpT} {cv : Value} (h : OwnH KOt 42 w lo hi ts cv) (k : Nat) (hk : k < ts.length) (j : Nat) (hj : j < 12) (u : Value) (O' : Opx) {g : Nat} {n cap : Nat} (hv : cv = .slice (some ⟨g, 0, none⟩) n cap)
    (hrow : ∀ va, (opRow ts[k].op va).set j u = opRow O' va) (hargs : O'.args = ts[k].op.args) (hin : ts[k].op.In → O'.In) :
    OwnH KOt 42 (w.setCell ⟨g, k * 12 + j, none⟩ u) lo hi (ts.set k ⟨O', ts[k].lo, ts[k].hi⟩) cv := by
  refine OwnH.put (E := KOt) h k hk j hj u ⟨O', ts[k].lo, ts[k].hi⟩ hv (fun w' row hsame hq => ?_)
  obtain ⟨va, rfl, h2, h3, h4⟩ := hq
  refine ⟨va, hrow va, ?_, h3, hin h4⟩
  rw [hargs]
  exact h2.keep (fun b hb hb2 => hsame b (h3 b hb hb2).2.2)
/-- a function of a list of one's own, whose code (in its own blocks) is changed -/
theorem ownH_deep {w w' : World} {H Q : Nat} {T : List FnT} {v : Value} (h : OwnH KFt 39 w H Q T v) (hap : ApF T) (i : Nat) (hi : i < T.length) (t' : FnT) (hlo : t'.lo = T[i].lo) (hhi : t'.hi = T[i].hi)
    (hsame : ∀ b, H ≤ b → b < Q → ¬ (T[i].lo ≤ b ∧ b < T[i].hi) → w'.heap[b]? = w.heap[b]?)
    {F n cap : Nat} (hv : v = .slice (some ⟨F, 0, none⟩) n cap) (hQ : ∀ (S : Nat → Prop) (cs : List Value), KFt.Q w S T[i] cs → (∀ j, j < 5 → w.cell? ⟨F, i * 5 + j, none⟩ = cs[j]?) → KFt.Q w' S t' cs) :
    OwnH KFt 39 w' H Q (T.set i t') v ∧ ApF (T.set i t') := by
  obtain ⟨rows, hl, hM, hown, hbQ, hq⟩ := h
  have hi' : i < rows.length := by omega
  have hlens := OwnL.lens (e := 39) (base := H) hl hq
  have hcell : ∀ j, j < 5 → w.cell? ⟨F, i * 5 + j, none⟩ = rows[i][j]? := fun j hj => by
    have hz : j < rows[i].length := by rw [hlens _ (List.getElem_mem hi')]; exact hj
    have k1 := flat_get hlens i hi' j hj
    rw [List.getElem?_eq_getElem hz] at k1
    have := hown.cells (g := F) (by rw [hv]; rfl) (i * 5 + j) _ k1
    rw [add_none, Nat.zero_add] at this
    rw [List.getElem?_eq_getElem hz]
    exact this
  refine ⟨⟨rows, by rw [List.length_set]; exact hl, by rw [List.length_set]; exact hM, ?_, hbQ, fun k hk hk' => ?_⟩, pair_set hap hi (fun b hb => by rw [hhi]; exact hb) (fun b hb => by rw [hlo]; exact hb)⟩
  · rw [List.length_set]
    refine ownsRow_keep hown (fun b hb => ?_)
    refine hsame b (ownsRow_lo hown hb) (hbQ b hb) (fun hin => ?_)
    obtain ⟨_, _, _, _, _, h5, _⟩ := hq i hi hi'
    exact (h5 b hin.1 hin.2).2.2 hb
  · rw [List.length_set] at hk
    have hS : ∀ b, (H ≤ b ∧ b < Q ∧ v.ownBlock ≠ some b) → (H ≤ b ∧ b < Q ∧ v.ownBlock ≠ some b) := fun b hb => hb
    by_cases e : i = k
    · subst e
      rw [List.getElem_set_self]
      exact KFt.keep (hQ _ _ (hq i hk hk') hcell) (fun _ _ => rfl) hS
    · rw [List.getElem_set_ne e]
      have hqk := hq k hk hk'
      obtain ⟨va, h1, h2, h3, h4, h5, h6⟩ := hqk
      refine ⟨va, h1, h2.keep (fun b hb hb2 => ?_), h3, h4, fun b hb hb2 => hS b (h5 b hb hb2), h6⟩
      have hb3 := h5 b hb hb2
      refine hsame b hb3.1 hb3.2.1 (fun hin => ?_)
      unfold ApF at hap
      rw [List.pairwise_iff_getElem] at hap
      rcases Nat.lt_or_gt_of_ne e with hlt | hgt
      · have := hap i k hi hk hlt; omega
      · have := hap k i hk hi hgt; omega

/-- a copy of code in blocks from B below Q -/
structure CpMo (w : World) (B Q : Nat) (m : Mo) (v : Vm) (lo hi : Nat → Nat) (H : Nat) (T : List FnT) : Prop where
  e8 : Own8 w lo hi m v
  low : B ≤ lo 0
  mid : hi 7 ≤ H
  top : H ≤ Q
  fns : T.map FnT.fn = m.funcs
  ap : ApF T
  f : OwnH KFt 39 w H Q T v.f
theorem OwnMo.cp {w : World} {B : Nat} {m : Mo} {v : Vm} {lo hi : Nat → Nat} {H : Nat} {T : List FnT} (h : OwnMo w B m v lo hi H T) (hH : H ≤ w.heap.size) : CpMo w B w.heap.size m v lo hi H T :=
  ⟨h.e8, h.low, h.mid, hH, h.fns, h.ap, h.f.h⟩
section
variable {w : World} {B Q : Nat} {m : Mo} {v : Vm} {lo hi : Nat → Nat} {H : Nat} {T : List FnT}
theorem CpMo.len (h : CpMo w B Q m v lo hi H T) : T.length = m.funcs.length := by rw [← h.fns, List.length_map]
theorem CpMo.fnIs (h : CpMo w B Q m v lo hi H T) {i : Nat} (hi' : i < m.funcs.length) (hT : i < T.length) : T[i].fn = m.funcs[i] := by
  have : (T.map FnT.fn)[i]? = m.funcs[i]? := by rw [h.fns]
  rw [List.getElem?_map, List.getElem?_eq_getElem hT, List.getElem?_eq_getElem hi'] at this
  exact Option.some.inj this
/-- what stays in all its blocks -/
theorem CpMo.keep {w' : World} (h : CpMo w B Q m v lo hi H T) (hw : ∀ b, B ≤ b → b < Q → w'.heap[b]? = w.heap[b]?) : CpMo w' B Q m v lo hi H T := by
  have ha := h.e8.all
  have hl := h.low
  have hm := h.mid
  have ht := h.top
  have h07 : lo 0 ≤ hi 7 := by have h1 := ha 7 (by omega); have h2 := h.e8.le 7 (by omega); omega
  refine ⟨h.e8.keep (fun k hk b hb hb2 => hw b ?_ ?_), h.low, h.mid, h.top, h.fns, h.ap, h.f.keep (fun b hb hb2 => hw b ?_ hb2)⟩
  · have := ha k hk; omega
  · have := ha k hk; omega
  · omega
theorem CpMo.below {w' : World} {D : Nat} (h : CpMo w B Q m v lo hi H T) (hD : Q ≤ D) (hb : Below D w w') : CpMo w' B Q m v lo hi H T := h.keep (fun b _ hb2 => hb.block b (by omega))
theorem CpMo.is_ (h : CpMo w B Q m v lo hi H T) : IsMo w (fun b => B ≤ b ∧ b < Q) m v := by
  obtain ⟨e8, low, mid, top, fns, ap, f⟩ := h
  have ha := e8.all
  have k : ∀ k, k < 8 → ∀ b, lo k ≤ b ∧ b < hi k → B ≤ b ∧ b < Q := fun k hk b hb => by have := ha k hk; omega
  have hle : lo 0 ≤ hi 7 := by have h1 := ha 7 (by omega); have h2 := e8.le 7 (by omega); omega
  refine ⟨e8.g.lies.keep (fun _ _ => rfl) (k 0 (by omega)), e8.s.lies.keep (fun _ _ => rfl) (k 1 (by omega)), e8.c.lies.keep (fun _ _ => rfl) (k 2 (by omega)), e8.l.lies.keep (fun _ _ => rfl) (k 3 (by omega)), e8.i.lies.keep (fun _ _ => rfl) (k 4 (by omega)), e8.o.lies.keep (fun _ _ => rfl) (k 5 (by omega)), e8.h.lies.keep (fun _ _ => rfl) (k 6 (by omega)), ?_, e8.t.lies.keep (fun _ _ => rfl) (k 7 (by omega))⟩
  rw [← fns]
  exact f.lies.plainF.keep (fun _ _ => rfl) (fun b hb => ⟨by omega, hb.2⟩)

/-- where a function lies, and its code -/
theorem CpMo.fn (h : CpMo w B Q m v lo hi H T) (i : Nat) (hi' : i < m.funcs.length) (hT : i < T.length) :
    ∃ F cap cv, v.f = .slice (some ⟨F, 0, none⟩) m.funcs.length cap ∧ H ≤ F ∧ F < Q ∧ ¬ (T[i].lo ≤ F ∧ F < T[i].hi) ∧ FnAt w F (i * 5) m.funcs[i] cv ∧ (∀ j, w.frozen? ⟨F, j, none⟩ = false) ∧ OwnH KOt 42 w T[i].lo T[i].hi T[i].ops cv ∧ T[i].ops.map OpT.op = m.funcs[i].code ∧ (∀ b, T[i].lo ≤ b → b < T[i].hi → H ≤ b ∧ b < Q) ∧ m.funcs[i].In := by
  have hfn := h.fnIs hi' hT
  have hlen := h.len
  obtain ⟨rows, hl, hM, hown, hbQ, hq⟩ := h.f
  have hi2 : i < rows.length := by omega
  have hlens := OwnL.lens (e := 39) (base := H) hl hq
  obtain ⟨cv, h1, h2, h3, h4, h5, h6⟩ := hq i hT hi2
  rw [hfn] at h1 h3 h6
  rcases hown.2 with ⟨-, h0⟩ | ⟨F, cap, cur, hv, hbg, hg, hc1, hc2, _⟩
  · omega
  · rw [hlen] at hv
    have hob : v.f.ownBlock = some F := by rw [hv]; rfl
    have hcell : ∀ j, j < 5 → w.cell? ⟨F, i * 5 + j, none⟩ = (fnRow m.funcs[i] cv)[j]? := fun j hj => by
      have hz : j < rows[i].length := by rw [hlens _ (List.getElem_mem hi2)]; exact hj
      have k1 := flat_get hlens i hi2 j hj
      rw [List.getElem?_eq_getElem hz] at k1
      have := hown.cells (g := F) hob (i * 5 + j) _ k1
      rw [add_none, Nat.zero_add] at this
      rw [← h1, List.getElem?_eq_getElem hz]
      exact this
    exact ⟨F, cap, cv, hv, hbg, hbQ F hob, fun hin => (h5 F hin.1 hin.2).2.2 hob, ⟨hcell 0 (by omega), hcell 1 (by omega), hcell 2 (by omega), hcell 3 (by omega), hcell 4 (by omega)⟩, fun j => frozen_of_row w F j _ _ hg, h2, h3, fun b hb hb2 => ⟨(h5 b hb hb2).1, (h5 b hb hb2).2.1⟩, h6⟩
/-- where an operation lies -/
theorem opH_at {lo hi : Nat} {ts : List OpT} {cv : Value} {xs : List Opx} (h : OwnH KOt 42 w lo hi ts cv) (hm : ts.map OpT.op = xs) (k : Nat) (hk : k < xs.length) (hk' : k < ts.length) :
    ∃ C cap va, cv = .slice (some ⟨C, 0, none⟩) xs.length cap ∧ lo ≤ C ∧ C < hi ∧ OpAt w C (k * 12) xs[k] va ∧ (∀ j, w.frozen? ⟨C, j, none⟩ = false) ∧ OwnH KI 3 w ts[k].lo ts[k].hi xs[k].args va ∧ (∀ b, ts[k].lo ≤ b → b < ts[k].hi → lo ≤ b ∧ b < hi ∧ b ≠ C) ∧ xs[k].In ∧ ts[k].op = xs[k] := by
  have he : ts[k].op = xs[k] := by
    have : (ts.map OpT.op)[k]? = xs[k]? := by rw [hm]
    rw [List.getElem?_map, List.getElem?_eq_getElem hk', List.getElem?_eq_getElem hk] at this
    exact Option.some.inj this
  obtain ⟨C, cap, row, hv, hc, h1, h2, ⟨va, hr, hq1, hq2, hq3⟩, hcell, hfr⟩ := h.at_ k hk'
  have hlen : ts.length = xs.length := by rw [← hm, List.length_map]
  rw [hlen] at hv
  rw [he] at hr hq1 hq3
  have hh : ∀ j, j < 12 → w.cell? ⟨C, k * 12 + j, none⟩ = (opRow xs[k] va)[j]? := fun j hj => by rw [← hr]; exact hcell j hj
  exact ⟨C, cap, va, hv, h1, h2, ⟨hh 0 (by decide), hh 1 (by decide), hh 2 (by decide), hh 3 (by decide), hh 4 (by decide), hh 5 (by decide), hh 6 (by decide), hh 7 (by decide), hh 8 (by decide), hh 9 (by decide), hh 10 (by decide), hh 11 (by decide)⟩, hfr, hq1, hq2, hq3, he⟩
end

end Go.Proofs.YtklbbphbnipegaaDoor
