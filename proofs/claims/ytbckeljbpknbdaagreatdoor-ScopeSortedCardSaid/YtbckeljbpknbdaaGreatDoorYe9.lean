/- Ic Id -/
import Derived.Test.YtbckeljbpknbdaaGreatDoorYe0
import Derived.Test.YtbckeljbpknbdaaGreatDoorRows
section
set_option linter.unusedVariables false
set_option linter.unusedSimpArgs false
namespace Go.Proofs.YtbckeljbpknbdaaGreatDoor
open Go.RowKit
theorem compactL_up : ∀ (l : List Dg), l.Pairwise (fun a b => leD a b = true) → (compactL l).Pairwise LtD
 | [], _ => by simp [compactL]
 | [a], _ => by simp [compactL]
 | a :: b :: r, h => by
   unfold compactL
   rw [List.pairwise_cons] at h
   split
   · exact compactL_up (b :: r) h.2
   · rename_i hab
     rw [List.pairwise_cons]
     refine ⟨fun g hg => ?_, compactL_up (b :: r) h.2⟩
     have hab2 : LtD a b := by
      rcases (leD_iff a b).1 (h.1 b (by simp)) with k | k
      · exact k
      · exact absurd k hab
     rcases List.mem_cons.1 ((compactL_mem _ g).1 hg) with rfl | hr
     · exact hab2
     · rcases (leD_iff b g).1 ((List.pairwise_cons.1 h.2).1 g hr) with k | rfl
       · exact hab2.trans k
       · exact hab2
theorem ordD_up (raw : List Dg) : (ordD raw).Pairwise LtD := compactL_up _ (List.pairwise_mergeSort leD_trans leD_total raw)
end Go.Proofs.YtbckeljbpknbdaaGreatDoor
end
section
set_option linter.unusedVariables false
set_option linter.unusedSimpArgs false
namespace Go.Proofs.YtbckeljbpknbdaaGreatDoor
open Go.RowKit
section
variable {N : Nat} {P : List UInt8 → Prop} (ds : List Dc)
theorem AllQ.app {a b : List Dg} (ha : AllQ N P a) (hb : AllQ N P b) : AllQ N P (a ++ b) := fun g h => (List.mem_append.1 h).elim (ha g) (hb g)
theorem useD_q {p : Int} {s : List UInt8} (ks : List Int) (h0 : 0 ≤ p) (h1 : p < N) (hs : P s) : AllQ N P (useD ds p s ks) := by
 unfold useD
 cases firstIx ds s with
 | none => exact AllQ.one h0 h1 (by decide) hs
 | some i => exact AllQ.ite (fun _ => AllQ.nil) fun _ => AllQ.one h0 h1 (by decide) hs
theorem useTypeD_q {p : Int} {ty : List UInt8} (h0 : 0 ≤ p) (h1 : p < N) (hs : okTy P ty) : AllQ N P (useTypeD ds p ty) := by
 unfold useTypeD
 exact AllQ.ite (fun h => useD_q ds _ h0 h1 (hs h)) fun _ => AllQ.nil
theorem exD1_q {l : List Pr} {k p : Int} {s : List UInt8} (h0 : 0 ≤ p) (h1 : p < N) (hs : k = 4 ∨ k = 11 → P s) : AllQ N P (exD1 ds l k p s) := by
 unfold exD1
 exact AllQ.ite (fun h => useD_q ds _ h0 h1 (hs (.inl h.1))) fun _ => AllQ.ite (fun h => useD_q ds _ h0 h1 (hs (.inr h))) fun _ => AllQ.nil
mutual
theorem exD_q (l : List Pr) : ∀ e : Ex, okE N P e → AllQ N P (exD ds l e)
 | .mk k p n s es, h => by
   rw [okE] at h
   rw [exD]
   exact (exD1_q ds h.1 h.2.1 h.2.2.1).app (exDs_q l es h.2.2.2)
theorem exDs_q (l : List Pr) : ∀ es : List Ex, okEs N P es → AllQ N P (exDs ds l es)
 | [], _ => by rw [exDs]; exact AllQ.nil
 | e :: es, h => by rw [okEs] at h; rw [exDs]; exact (exD_q l e h.1).app (exDs_q l es h.2)
end
theorem useLocalD_q {l : List Pr} {p : Int} {s : List UInt8} (h0 : 0 ≤ p) (h1 : p < N) (hs : s = [] ∨ P s) : AllQ N P (useLocalD ds l p s) := by
 unfold useLocalD
 exact AllQ.ite (fun h => useD_q ds _ h0 h1 (hs.resolve_left h.1)) fun _ => AllQ.nil
theorem smD1_q {l : List Pr} {k p : Int} {nm ty : List UInt8} (h0 : 0 ≤ p) (h1 : p < N) (hn : k = 1 ∨ 5 ≤ k ∧ k ≤ 10 → P nm) (ht : k = 1 → okTy P ty) (ht2 : k = 8 ∨ k = 10 → ty = [] ∨ P ty) : AllQ N P (smD1 ds l k p nm ty) := by
 unfold smD1
 refine AllQ.ite (fun h => ?_) fun _ => ?_
 · exact ((useTypeD_q ds h0 h1 (ht h)).app (AllQ.ite (fun _ => AllQ.one h0 h1 (by decide) (hn (.inl h))) fun _ => AllQ.nil)).app (AllQ.ite (fun _ => AllQ.one h0 h1 (by decide) (hn (.inl h))) fun _ => AllQ.nil)
 refine AllQ.ite (fun h => useD_q ds _ h0 h1 (hn (.inr (by omega)))) fun _ => ?_
 refine AllQ.ite (fun h => useD_q ds _ h0 h1 (hn (.inr (by omega)))) fun _ => ?_
 refine AllQ.ite (fun h => (useD_q ds _ h0 h1 (hn (.inr (by omega)))).app (useLocalD_q ds h0 h1 (ht2 (.inl h)))) fun _ => ?_
 refine AllQ.ite (fun h => useD_q ds _ h0 h1 (hn (.inr (by omega)))) fun _ => ?_
 exact AllQ.ite (fun h => (useD_q ds _ h0 h1 (hn (.inr (by omega)))).app (useLocalD_q ds h0 h1 (ht2 (.inr h)))) fun _ => AllQ.nil
mutual
theorem smD_q (l : List Pr) : ∀ s : Sm, okS N P s → AllQ N P (smD ds l s).1
 | .mk k p nm ty ex bd el, h => by
   rw [okS] at h
   obtain ⟨h0, h1, hn, ht, ht2, hx, hb, hl⟩ := h
   rw [smD]
   exact (((exDs_q ds l ex hx).app (smD1_q ds h0 h1 hn ht ht2)).app (smDs_q _ bd hb)).app (smDs_q _ el hl)
theorem smDs_q (l : List Pr) : ∀ ss : List Sm, okSs N P ss → AllQ N P (smDs ds l ss).1
 | [], _ => by rw [smDs]; exact AllQ.nil
 | s :: ss, h => by rw [okSs] at h; rw [smDs]; exact (smD_q l s h.1).app (smDs_q _ ss h.2)
end
theorem prDs_q {p : Int} (fn : Bool) (h0 : 0 ≤ p) (h1 : p < N) : ∀ (qs pre : List Pr), (∀ q ∈ qs, okPr P q) → AllQ N P (prDs ds p fn pre qs)
 | [], pre, _ => by rw [prDs]; exact AllQ.nil
 | q :: qs, pre, h => by
   rw [prDs]
   have hq := h q (by simp)
   exact ((AllQ.ite (fun _ => AllQ.one h0 h1 (by decide) hq.1) fun _ => AllQ.nil).app (useTypeD_q ds h0 h1 hq.2)).app (prDs_q fn h0 h1 qs _ (fun x hx => h x (by simp [hx])))
theorem dcD_q (pre : List Dc) (d : Dc) (h : okD N P d) : AllQ N P (dcD ds pre d).1 := by
 obtain ⟨h0, h1, _, _, hn, ht, hp, _, hb⟩ := h
 unfold dcD
 exact ((((AllQ.ite (fun _ => AllQ.nil) fun _ => AllQ.one h0 h1 (by decide) hn).app (AllQ.ite (fun _ => AllQ.one h0 h1 (by decide) hn) fun _ => AllQ.nil)).app (useTypeD_q ds h0 h1 ht)).app (prDs_q ds _ h0 h1 _ _ hp)).app (AllQ.ite (fun _ => smDs_q ds _ _ hb) fun _ => AllQ.nil)
theorem dcDs_q : ∀ (r pre : List Dc), (∀ d ∈ r, okD N P d) → AllQ N P (dcDs ds pre r).1
 | [], pre, _ => by rw [dcDs]; exact AllQ.nil
 | d :: r, pre, h => by rw [dcDs]; exact (dcD_q ds pre d (h d (by simp))).app (dcDs_q r _ (fun x hx => h x (by simp [hx])))
end
section
variable {N : Nat} {P : List UInt8 → Prop} {ds : List Dc} {z : Dc}
end
section
variable {ds : List Dc}
end
end Go.Proofs.YtbckeljbpknbdaaGreatDoor
end
