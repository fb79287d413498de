/- What a hatch gives, plain: values of expressions, how many parts they have, how deep they are. -/
import Derived.Test.YtadkimnpeachpaaGreatDoorUb
import Derived.WalkKit
set_option linter.unusedVariables false
namespace Go.Proofs.YtadkimnpeachpaaGreatDoor
open Go.RowKit

/-- what a sign gives of two values -/
def opV (s : List UInt8) (a b : Int) : Int :=
  if s = [43] then wrap64 (a + b) else if s = [45] then wrap64 (a - b) else if s = [42] then wrap64 (a * b)
  else if s = [47] then (if b = 0 then 0 else wrap64 (a.tdiv b)) else if s = [37] then (if b = 0 then 0 else a.tmod b) else 0
/-- the value of the first input of a name -/
def inV (nms : List (List UInt8)) (xs : List Int) (s : List UInt8) : Int := match nms.idxOf? s with
  | some i => xs[i]?.getD 0
  | none => 0
/-- what an expression gives of what its parts give -/
def kV (nms : List (List UInt8)) (xs : List Int) (k n : Int) (s : List UInt8) (vs : List Int) : Int :=
  if k = 1 then n else if k = 4 then inV nms xs s
  else if k = 9 then (if s = [45] ∧ vs.length = 1 then wrap64 (0 - vs[0]?.getD 0) else 0)
  else if k = 10 then (if vs.length = 2 then opV s (vs[0]?.getD 0) (vs[1]?.getD 0) else 0) else 0
mutual
def valE (nms : List (List UInt8)) (xs : List Int) : Ex → Int
  | .mk k _ n s es => kV nms xs k n s (valEs nms xs es)
def valEs (nms : List (List UInt8)) (xs : List Int) : List Ex → List Int
  | [] => []
  | e :: es => valE nms xs e :: valEs nms xs es
end
theorem valEs_map (nms : List (List UInt8)) (xs : List Int) : ∀ es : List Ex, valEs nms xs es = es.map (valE nms xs)
  | [] => by rw [valEs]; rfl
  | e :: es => by rw [valEs, valEs_map nms xs es, List.map_cons]
theorem valE_mk (nms : List (List UInt8)) (xs : List Int) (k p n : Int) (s : List UInt8) (es : List Ex) : valE nms xs (.mk k p n s es) = kV nms xs k n s (es.map (valE nms xs)) := by rw [valE, valEs_map]
mutual
/-- its parts -/
def parts : Ex → Nat
  | .mk _ _ _ _ es => 1 + partsL es
def partsL : List Ex → Nat
  | [] => 0
  | e :: es => parts e + partsL es
end
mutual
/-- how deep it is -/
def deepE : Ex → Nat
  | .mk _ _ _ _ es => 1 + deepL es
def deepL : List Ex → Nat
  | [] => 0
  | e :: es => max (deepE e) (deepL es)
end
theorem partsL_at : ∀ (es : List Ex) (j : Nat) (h : j < es.length), parts es[j] ≤ partsL es
  | e :: es, 0, _ => by simp only [List.getElem_cons_zero, partsL]; omega
  | e :: es, j + 1, h => by
    have := partsL_at es j (by simpa using h)
    simp only [List.getElem_cons_succ, partsL]; omega
theorem deepL_at : ∀ (es : List Ex) (j : Nat) (h : j < es.length), deepE es[j] ≤ deepL es
  | e :: es, 0, _ => by simp only [List.getElem_cons_zero, deepL]; omega
  | e :: es, j + 1, h => by
    have := deepL_at es j (by simpa using h)
    simp only [List.getElem_cons_succ, deepL]; omega
mutual
/-- who weighs no more than is allowed has so few parts, and is no deeper -/
theorem light_parts : ∀ (e : Ex) (m d : Int), 0 ≤ d → weigh e m d ≤ m → (parts e : Int) ≤ weigh e m d ∧ (deepE e : Int) ≤ d + 1
  | .mk k p n s es, m, d, hd, h => by
    rw [weigh_mk] at h ⊢
    simp only [parts, deepE]
    split at h
    · omega
    · rename_i hz
      rw [if_neg hz]
      obtain ⟨h1, h2⟩ := light_partsL es (1 + (s.length : Int)) m d hd (fun h0 => by
        rcases Int.lt_or_le 0 d with h3 | h3
        · exact h3
        · exact absurd ⟨by omega, h0⟩ hz) h
      constructor
      · omega
      · omega
theorem light_partsL : ∀ (es : List Ex) (n m d : Int), 0 ≤ d → (0 < es.length → 0 < d) → weighs es n m d ≤ m → n + (partsL es : Int) ≤ weighs es n m d ∧ (deepL es : Int) ≤ d
  | [], n, m, d, hd, hp, h => by rw [weighs]; simp only [partsL, deepL]; omega
  | e :: es, n, m, d, hd, hp, h => by
    have hd1 : 0 < d := hp (by simp)
    by_cases hn : n ≤ m
    · rw [weighs_go hn] at h ⊢
      have hw : weigh e (m - n) (d - 1) ≤ m - n := by
        by_cases hc : n + weigh e (m - n) (d - 1) ≤ m
        · omega
        · rw [weighs_stop _ _ _ _ hc] at h
          omega
      obtain ⟨a1, a2⟩ := light_parts e (m - n) (d - 1) (by omega) hw
      obtain ⟨b1, b2⟩ := light_partsL es _ m d hd (fun _ => hd1) h
      simp only [partsL, deepL]
      omega
    · rw [weighs_stop _ _ _ _ hn] at h
      omega
end

end Go.Proofs.YtadkimnpeachpaaGreatDoor
