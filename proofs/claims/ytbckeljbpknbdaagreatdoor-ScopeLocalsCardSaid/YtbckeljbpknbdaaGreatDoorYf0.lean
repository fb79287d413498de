/- Tb Id -/
import Derived.Test.YtbckeljbpknbdaaGreatDoorYe0
import Derived.Test.YtbckeljbpknbdaaGreatDoorRows
section
set_option linter.unusedVariables false
namespace Go.Proofs.YtbckeljbpknbdaaGreatDoor
def Tok.on (d : Nat) (t : Tok) : Tok := ⟨t.kind, t.text, t.pl + d⟩
end Go.Proofs.YtbckeljbpknbdaaGreatDoor
end
section
set_option linter.unusedVariables false
set_option linter.unusedSimpArgs false
namespace Go.Proofs.YtbckeljbpknbdaaGreatDoor
open Go.RowKit
section
variable {N : Nat} {P : List UInt8 → Prop} (ds : List Dc)
end
section
variable {N : Nat} {P : List UInt8 → Prop} {ds : List Dc} {z : Dc}
end
mutual
def varsS : Sm → List Pr
 | .mk k _ nm ty _ bd el => (if k = 1 then [⟨nm, ty⟩] else []) ++ varsSs bd ++ varsSs el
def varsSs : List Sm → List Pr
 | [] => []
 | s :: ss => varsS s ++ varsSs ss
end
section
variable {ds : List Dc}
theorem nil_app {a b : List Dg} (h : a ++ b = []) : a = [] ∧ b = [] := List.append_eq_nil_iff.1 h
theorem ite_nil {c : Prop} [Decidable c] {x : Dg} (h : (if c then [x] else []) = []) : ¬ c := by
 split at h
 · cases h
 · assumption
mutual
theorem smD_vars (l : List Pr) : ∀ s : Sm, (smD ds l s).1 = [] → (smD ds l s).2 = l ++ varsS s ∧ ∀ q ∈ varsS s, firstIx ds q.name = none
 | .mk k p nm ty ex bd el, h => by
   rw [smD] at h ⊢
   rw [varsS]
   obtain ⟨h1, h4⟩ := nil_app h
   obtain ⟨h2, h3⟩ := nil_app h1
   obtain ⟨h5, h6⟩ := nil_app h2
   obtain ⟨e3, n3⟩ := smDs_vars _ bd h3
   obtain ⟨e4, n4⟩ := smDs_vars _ el h4
   by_cases hk : k = 1
   · unfold smD1 at h6
     rw [if_pos hk] at h6
     obtain ⟨h7, h8⟩ := nil_app h6
     obtain ⟨h9, h10⟩ := nil_app h7
     have h11 := ite_nil h10
     have hl : smL1 l k nm ty = l ++ [⟨nm, ty⟩] := by
      unfold smL1 addL
      rw [if_pos hk, if_neg (fun x => h11 (.inl x))]
     have hf : firstIx ds nm = none := by
      cases hx : firstIx ds nm with
      | none => rfl
      | some i => exact absurd (.inr (by rw [hx]; rfl)) h11
     rw [if_pos hk]
     refine ⟨?_, ?_⟩
     · show (smDs ds (smDs ds (smL1 l k nm ty) bd).2 el).2 = _
       rw [e4, e3, hl]; simp
     · intro q hq
       rcases List.mem_append.1 hq with hq | hq
       · rcases List.mem_append.1 hq with hq | hq
         · rw [List.mem_singleton.1 hq]; exact hf
         · exact n3 q hq
       · exact n4 q hq
   · have hl : smL1 l k nm ty = l := by unfold smL1; rw [if_neg hk]
     rw [if_neg hk]
     refine ⟨?_, ?_⟩
     · show (smDs ds (smDs ds (smL1 l k nm ty) bd).2 el).2 = _
       rw [e4, e3, hl]; simp
     · intro q hq
       rw [List.nil_append] at hq
       rcases List.mem_append.1 hq with hq | hq
       · exact n3 q hq
       · exact n4 q hq
theorem smDs_vars (l : List Pr) : ∀ ss : List Sm, (smDs ds l ss).1 = [] → (smDs ds l ss).2 = l ++ varsSs ss ∧ ∀ q ∈ varsSs ss, firstIx ds q.name = none
 | [], _ => by rw [smDs, varsSs]; simp
 | s :: ss, h => by
   rw [smDs] at h ⊢
   rw [varsSs]
   obtain ⟨h1, h2⟩ := nil_app h
   obtain ⟨e1, n1⟩ := smD_vars l s h1
   obtain ⟨e2, n2⟩ := smDs_vars _ ss h2
   refine ⟨?_, ?_⟩
   · show (smDs ds (smD ds l s).2 ss).2 = _
     rw [e2, e1, List.append_assoc]
   · intro q hq
     rcases List.mem_append.1 hq with hq | hq
     · exact n1 q hq
     · exact n2 q hq
end
theorem prDs_params {p : Int} : ∀ (qs pre : List Pr), prDs ds p true pre qs = [] → qs.foldl (fun l q => addL l q.name q.type) pre = pre ++ qs ∧ ∀ q ∈ qs, firstIx ds q.name = none
 | [], pre, _ => by simp
 | q :: qs, pre, h => by
   rw [prDs] at h
   obtain ⟨h1, h2⟩ := nil_app h
   obtain ⟨h3, h4⟩ := nil_app h1
   have h5 := ite_nil h3
   obtain ⟨e, n⟩ := prDs_params qs (pre ++ [q]) h2
   have hl : addL pre q.name q.type = pre ++ [q] := by unfold addL; rw [if_neg (fun x => h5 (.inl x))]
   refine ⟨?_, ?_⟩
   · rw [List.foldl_cons, hl, e]; simp
   · intro x hx
     rcases List.mem_cons.1 hx with rfl | hx
     · cases hy : firstIx ds x.name with
       | none => rfl
       | some i => exact absurd (.inr ⟨rfl, by rw [hy]; rfl⟩) h5
     · exact n x hx
theorem dcD_locals {pre : List Dc} {d : Dc} (h8 : d.kind = 8 → d.pairs = []) (h : (dcD ds pre d).1 = []) (hb : bodyB d.kind = true) : (dcD ds pre d).2 = [d.pairs ++ varsSs d.body] ∧ ∀ q ∈ d.pairs ++ varsSs d.body, firstIx ds q.name = none := by
 have e1 : (dcD ds pre d).1 = ((if firstIx ds d.name = some pre.length then [] else [⟨d.pl, 40, d.name⟩])
  ++ (if mostK d.kind ≤ (pre.filter fun x => decide (x.kind = d.kind)).length then [⟨d.pl, 22, d.name⟩] else [])
  ++ useTypeD ds d.pl d.type ++ prDs ds d.pl (decide (d.kind = 7)) [] d.pairs ++ (if bodyB d.kind = true then (smDs ds (paramsL d.pairs) d.body).1 else [])) := rfl
 have e2 : (dcD ds pre d).2 = if bodyB d.kind = true then [(smDs ds (paramsL d.pairs) d.body).2] else [] := rfl
 rw [e1] at h
 rw [e2]
 obtain ⟨h1, h2⟩ := nil_app h
 obtain ⟨h3, h4⟩ := nil_app h1
 rw [if_pos hb] at h2 ⊢
 have hp : paramsL d.pairs = d.pairs ∧ ∀ q ∈ d.pairs, firstIx ds q.name = none := by
  by_cases hk : d.kind = 7
  · rw [decide_eq_true hk] at h4
    have := prDs_params d.pairs [] h4
    rw [List.nil_append] at this
    exact this
  · have hk8 : d.kind = 8 := by unfold bodyB at hb; have := of_decide_eq_true hb; omega
    rw [h8 hk8]
    exact ⟨rfl, fun q hq => by cases hq⟩
 obtain ⟨e, n⟩ := smDs_vars _ _ h2
 rw [hp.1] at e
 refine ⟨?_, ?_⟩
 · show [(smDs ds (paramsL d.pairs) d.body).2] = _
   rw [hp.1, e]
 · intro q hq
   rcases List.mem_append.1 hq with hq | hq
   · exact hp.2 q hq
   · exact n q hq
end
end Go.Proofs.YtbckeljbpknbdaaGreatDoor
end
