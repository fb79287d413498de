/- Package code: the text, plain, and how long it is. -/
import Derived.Test.YtgohnlcgidmlfaaDoorMep
set_option linter.unusedVariables false
set_option linter.unusedSimpArgs false
namespace Go.Proofs.YtgohnlcgidmlfaaDoor
open Go.RowKit

/-- the kinds' names -/
def kname : Nat → List UInt8
  | 1 => [99, 111, 110, 115, 116]
  | 2 => [105, 110, 112, 117, 116]
  | 3 => [114, 101, 108, 101, 97, 115, 101]
  | 4 => [109, 111, 118, 101]
  | 5 => [117, 110, 97, 114, 121]
  | 6 => [98, 105, 110, 97, 114, 121]
  | 7 => [108, 111, 97, 100]
  | 8 => [115, 116, 111, 114, 101]
  | 9 => [110, 101, 119]
  | 10 => [109, 97, 107, 101]
  | 11 => [103, 101, 116]
  | 12 => [112, 117, 116]
  | 13 => [105, 110, 100, 101, 120]
  | 14 => [101, 108, 101, 109]
  | 15 => [99, 117, 116]
  | 16 => [108, 111, 99, 107]
  | 17 => [117, 110, 108, 111, 99, 107]
  | 18 => [115, 101, 110, 100]
  | 19 => [114, 101, 99, 118]
  | 20 => [111, 117, 116]
  | 21 => [105, 102]
  | 22 => [99, 97, 108, 108]
  | 23 => [114, 101, 116, 117, 114, 110]
  | _ => []
theorem kname_len : ∀ k, (kname k).length ≤ 7 := by
  intro k
  unfold kname
  split <;> simp
def funcPts (i : Nat) (f : Fn) : List Pt := [.s [102, 117, 110, 99], .n i, .n f.params, .n f.regs, .n f.result]
def opT (k : Nat) (O : Opx) : List UInt8 := lineT (opPts k (kname O.kind.toNat) O ++ wayPts O)
def opsU (xs : List Opx) (n : Nat) : List UInt8 := (List.range n).flatMap fun k => (xs[k]?.map (opT k)).getD []
def fnT (i : Nat) (f : Fn) : List UInt8 := lineT (funcPts i f) ++ opsU f.code f.code.length
def showU (m : Mo) (n : Nat) : List UInt8 := (List.range n).flatMap fun i => (m.funcs[i]?.map (fnT i)).getD []
theorem opsU_succ {xs : List Opx} {k : Nat} (h : k < xs.length) : opsU xs (k + 1) = opsU xs k ++ opT k xs[k] := by
  unfold opsU
  rw [List.range_succ, List.flatMap_append, List.flatMap_cons, List.flatMap_nil, List.append_nil, List.getElem?_eq_getElem h]
  rfl
theorem showU_succ {m : Mo} {i : Nat} (h : i < m.funcs.length) : showU m (i + 1) = showU m i ++ fnT i m.funcs[i] := by
  unfold showU
  rw [List.range_succ, List.flatMap_append, List.flatMap_cons, List.flatMap_nil, List.append_nil, List.getElem?_eq_getElem h]
  rfl

theorem hiL_none {r wd ni nh ns nl nc no kd : Int} (h : ¬ (1 ≤ kd ∧ kd ≤ 23)) : (hiL r wd ni nh ns nl nc no kd).2 = false := by
  unfold hiL
  rw [if_neg (by omega), if_neg (by omega), if_neg (by omega), if_neg (by omega), if_neg (by omega), if_neg (by omega), if_neg (by omega), if_neg (by omega), if_neg (by omega), if_neg (by omega), if_neg (by omega), if_neg (by omega), if_neg (by omega), if_neg (by omega), if_neg (by omega), if_neg (by omega), if_neg (by omega), if_neg (by omega), if_neg (by omega), if_neg (by omega), if_neg (by omega), if_neg (by omega)]
theorem opB_kind {m : Mo} {F : Fn} {n : Int} {O : Opx} (h : opB m F n O = true) : 1 ≤ O.kind ∧ O.kind ≤ 23 := by
  unfold opB at h
  simp only [Bool.and_eq_true] at h
  have hf := h.1.1
  unfold fieldsB at hf
  split at hf
  · omega
  · split at hf
    · cases hf
    · simp only [Bool.and_eq_true] at hf
      have hk := hf.1
      unfold knJ at hk
      simp only [Bool.and_eq_true] at hk
      by_cases hc : 1 ≤ O.kind ∧ O.kind ≤ 23
      · exact hc
      · have := hk.1
        unfold hiM at this
        rw [hiL_none hc] at this
        cases this
theorem opB_args {m : Mo} {F : Fn} {n : Int} {O : Opx} (h : opB m F n O = true) (hfs : m.funcs.all fnB = true) (hF : fnB F = true) : O.args.length ≤ 1024 := by
  unfold opB at h
  simp only [Bool.and_eq_true] at h
  obtain ⟨⟨hf, ha⟩, -⟩ := h
  unfold argsB at ha
  simp only [Bool.and_eq_true, decide_eq_true_eq] at ha
  have hc := ha.1
  unfold countB at hc
  split at hc
  · rename_i hk
    have hr := fieldsB_call hf hk
    obtain ⟨i, hi⟩ := Int.eq_ofNat_of_zero_le hr.1
    have hi2 : i < m.funcs.length := by omega
    have hb := fnB_iff (List.all_eq_true.1 hfs _ (List.getElem_mem hi2))
    rw [hi] at hc
    unfold calledB at hc
    rw [Int.toNat_natCast, List.getElem?_eq_getElem hi2] at hc
    simp only [Option.map_some, Option.getD_some] at hc
    omega
  · split at hc
    · have := fnB_iff hF
      omega
    · omega
theorem ptsW_op {k : Nat} {nm : List UInt8} {O : Opx} (hn : nm.length ≤ 7) (ha : O.args.length ≤ 1024) : ptsW (opPts k nm O ++ wayPts O) ≤ 23000 := by
  unfold wayPts
  split
  · simp [ptsW, opPts, ptW]; omega
  · split
    · simp [ptsW, opPts, ptW]; omega
    · simp [ptsW, opPts, ptW]; omega
theorem lineT_len {ps : List Pt} (h : ptsT ps ≠ []) : (lineT ps).length = (ptsT ps).length := by
  unfold lineT
  have := List.length_pos_iff.2 h
  simp
  omega

end Go.Proofs.YtgohnlcgidmlfaaDoor
