/- The document's text of code is package code's (plain). -/
import Derived.Test.YtgohnlcgidmlfaaDoorMgg
import Derived.Test.YtgohnlcgidmlfaaDoorMer
import Derived.Test.YtgohnlcgidmlfaaDoorMgb
set_option linter.unusedVariables false
set_option linter.unusedSimpArgs false
namespace Go.Proofs.YtgohnlcgidmlfaaDoor
open Go.RowKit

def sp (x : Int) : List UInt8 := 32 :: Lib.itoa x
def refHead (i : Nat) (f : Fn) : List UInt8 := [102, 117, 110, 99, 32] ++ Lib.itoa i ++ [32] ++ Lib.itoa f.params ++ [32] ++ Lib.itoa f.regs ++ [32] ++ Lib.itoa f.result ++ [10]
def refOp (k : Nat) (O : Opx) : List UInt8 := Lib.itoa k ++ [32] ++ kname O.kind.toNat ++ (fl O ++ O.args).flatMap sp ++ (if O.kind = 23 then [] else [32, 45, 62, 32] ++ Lib.itoa O.next) ++ (if O.kind = 21 then 32 :: Lib.itoa O.els else []) ++ [10]
theorem drop_blank : ∀ (t0 : List UInt8) (ts : List (List UInt8)), ((t0 :: ts).flatMap fun t => t ++ [32]).dropLast = t0 ++ ts.flatMap fun t => 32 :: t
  | t0, [] => by simp
  | t0, t1 :: ts => by
    have h := drop_blank t1 ts
    rw [List.flatMap_cons, List.flatMap_cons, ← List.append_assoc]
    have hne : ((t1 :: ts).flatMap fun t => t ++ [32]) ≠ [] := by simp
    rw [List.flatMap_cons] at hne h
    rw [List.append_assoc, List.append_assoc, List.append_assoc]
    rw [show t0 ++ ([32] ++ (t1 ++ ([32] ++ List.flatMap (fun t => t ++ [32]) ts))) = (t0 ++ [32]) ++ (t1 ++ [32] ++ List.flatMap (fun t => t ++ [32]) ts) from by simp]
    rw [List.dropLast_append_of_ne_nil hne, h]
    simp
def ptTx : Pt → List (List UInt8)
  | .s t => [t]
  | .n x => [Lib.itoa x]
  | .l xs => xs.map Lib.itoa
theorem ptsT_tx (ps : List Pt) : ptsT ps = (ps.flatMap ptTx).flatMap fun t => t ++ [32] := by
  unfold ptsT
  rw [List.flatMap_assoc]
  congr 1
  funext p
  cases p with
  | s t => simp [ptT, ptTx]
  | n x => simp [ptT, ptTx]
  | l xs => simp [ptT, ptTx, nums, List.flatMap_map]
theorem head_ref (i : Nat) (f : Fn) : lineT (funcPts i f) = refHead i f := by
  unfold lineT
  rw [ptsT_tx]
  rw [show (funcPts i f).flatMap ptTx = [102, 117, 110, 99] :: [Lib.itoa (i : Int), Lib.itoa f.params, Lib.itoa f.regs, Lib.itoa f.result] from rfl, drop_blank]
  simp [refHead]
theorem op_ref (k : Nat) (O : Opx) : opT k O = refOp k O := by
  unfold opT lineT
  rw [ptsT_tx]
  have h1 : (opPts k (kname O.kind.toNat) O ++ wayPts O).flatMap ptTx = Lib.itoa (k : Int) :: ([kname O.kind.toNat, Lib.itoa O.a, Lib.itoa O.b, Lib.itoa O.c, Lib.itoa O.d, Lib.itoa O.e, Lib.itoa O.f, Lib.itoa O.k] ++ O.args.map Lib.itoa ++ (wayPts O).flatMap ptTx) := by
    rw [List.flatMap_append]
    simp [opPts, ptTx]
  rw [h1, drop_blank]
  unfold refOp wayPts
  by_cases h23 : O.kind = 23
  · have h21 : ¬ O.kind = 21 := by omega
    simp [h23, ptTx, fl, sp, List.flatMap_map]
    rfl
  · by_cases h21 : O.kind = 21
    · simp [h21, ptTx, fl, sp, List.flatMap_map]
      rfl
    · simp [h23, h21, ptTx, fl, sp, List.flatMap_map]
      rfl

end Go.Proofs.YtgohnlcgidmlfaaDoor
