/- Package code: Show. -/
import Derived.Test.YtgohnlcgidmlfaaDoorMeq
import Derived.Laws.IdiomStrings
set_option linter.unusedVariables false
set_option linter.unusedSimpArgs false
namespace Go.Proofs.YtgohnlcgidmlfaaDoor
open Go.RowKit

def NmW (w : World) : Prop := ∀ k, k < 24 → w.cell? ⟨0, k, none⟩ = some (.string (bs (kname k)))
def TbW (w : World) : Prop := Lib.TabBelow Tryd.prog w.heap.size w "internal/strconv.uint64pow10" .u64 Lib.pow10Tab
def sumN (fs : List Fn) : Nat := (fs.map (·.code.length)).sum
theorem sumN_take : ∀ {fs : List Fn} {i : Nat} (h : i < fs.length), sumN (fs.take (i + 1)) = sumN (fs.take i) + fs[i].code.length ∧ sumN (fs.take (i + 1)) ≤ sumN fs
  | f :: fs, 0, h => by simp [sumN]
  | f :: fs, i + 1, h => by
    have h1 := sumN_take (fs := fs) (i := i) (by simpa using h)
    unfold sumN at h1 ⊢
    simp only [List.take_succ_cons, List.map_cons, List.sum_cons, List.getElem_cons_succ]
    omega
theorem sumN_c : ∀ fs : List Fn, (sumN fs : Int) = sumC fs
  | [] => rfl
  | f :: fs => by
    have := sumN_c fs
    unfold sumN at this ⊢
    rw [sumC, List.map_cons, List.sum_cons]
    omega
def showR (m : Mo) : List UInt8 := if rightM m = true then showU m m.funcs.length else []
/-- what is known of code that is right -/
structure RightP (m : Mo) : Prop where
  few : m.funcs.length ≤ 12 ∧ 1 ≤ m.funcs.length
  sum : sumN m.funcs ≤ 4096
  kinds : ∀ f ∈ m.funcs, ∀ O ∈ f.code, (1 ≤ O.kind ∧ O.kind ≤ 23) ∧ O.args.length ≤ 1024
theorem rightP {m : Mo} (h : rightM m = true) : RightP m := by
  unfold rightM at h
  simp only [Bool.and_eq_true] at h
  obtain ⟨⟨hp, hf⟩, ho⟩ := h
  obtain ⟨hfn, h12, h1⟩ := funcsM_fns hf
  refine ⟨⟨h12, h1⟩, ?_, fun f hfm O hO => ?_⟩
  · unfold funcsM at hf
    simp only [Bool.and_eq_true, decide_eq_true_eq] at hf
    have := hf.1.1.2
    rw [← sumN_c] at this
    omega
  · unfold opsM at ho
    have h1 := List.all_eq_true.1 (List.all_eq_true.1 ho f hfm) O hO
    exact ⟨opB_kind h1, opB_args h1 hfn (List.all_eq_true.1 hfn f hfm)⟩
theorem lineT_ne (ps : List Pt) : lineT ps ≠ [] := by unfold lineT; simp
theorem opT_len {k : Nat} {O : Opx} {w : World} {S : Nat → Prop} {z : Value} (ha : O.args.length ≤ 1024) (ho : O.In) (hk : In64 (k : Int)) (hi : ∀ x ∈ O.args, In64 x) : (opT k O).length ≤ 23000 := by
  have hne : ptsT (opPts k (kname O.kind.toNat) O ++ wayPts O) ≠ [] := by simp [opPts, ptsT, ptT]
  unfold opT
  rw [lineT_len hne]
  refine Nat.le_trans (ptsW_all (fun p hp => ?_)) (ptsW_op (kname_len _) ha)
  have hall : ∀ p ∈ opPts k (kname O.kind.toNat) O ++ wayPts O, (∃ t, p = .s t) ∨ (∃ x, p = .n x ∧ In64 x) ∨ (∃ xs, p = .l xs ∧ ∀ x ∈ xs, In64 x) := by
    intro p hp
    rcases List.mem_append.1 hp with hp | hp
    · simp only [opPts, List.mem_cons, List.not_mem_nil, or_false] at hp
      rcases hp with rfl | rfl | rfl | rfl | rfl | rfl | rfl | rfl | rfl | rfl
      · exact .inr (.inl ⟨_, rfl, hk⟩)
      · exact .inl ⟨_, rfl⟩
      · exact .inr (.inl ⟨_, rfl, ho.a⟩)
      · exact .inr (.inl ⟨_, rfl, ho.b⟩)
      · exact .inr (.inl ⟨_, rfl, ho.c⟩)
      · exact .inr (.inl ⟨_, rfl, ho.d⟩)
      · exact .inr (.inl ⟨_, rfl, ho.e⟩)
      · exact .inr (.inl ⟨_, rfl, ho.f⟩)
      · exact .inr (.inl ⟨_, rfl, ho.k⟩)
      · exact .inr (.inr ⟨_, rfl, hi⟩)
    · unfold wayPts at hp
      split at hp
      · simp at hp
      · split at hp
        · simp only [List.mem_cons, List.not_mem_nil, or_false] at hp
          rcases hp with rfl | rfl | rfl
          · exact .inl ⟨_, rfl⟩
          · exact .inr (.inl ⟨_, rfl, ho.next⟩)
          · exact .inr (.inl ⟨_, rfl, ho.els⟩)
        · simp only [List.mem_cons, List.not_mem_nil, or_false] at hp
          rcases hp with rfl | rfl
          · exact .inl ⟨_, rfl⟩
          · exact .inr (.inl ⟨_, rfl, ho.next⟩)
  rcases hall p hp with ⟨t, rfl⟩ | ⟨x, rfl, hx⟩ | ⟨xs, rfl, hx⟩
  · simp [ptT, ptW]
  · have := itoa_len hx
    simp [ptT, ptW]; omega
  · exact nums_len hx
theorem funcPts_len {i : Nat} {f : Fn} (hi : In64 (i : Int)) (hf : f.In) : (lineT (funcPts i f)).length ≤ 100 ∧ ptsW (funcPts i f) ≤ 100 := by
  have h2 : ptsW (funcPts i f) ≤ 100 := by simp [ptsW, funcPts, ptW]
  refine ⟨?_, h2⟩
  have hne : ptsT (funcPts i f) ≠ [] := by simp [funcPts, ptsT, ptT]
  rw [lineT_len hne]
  refine Nat.le_trans (ptsW_all (fun p hp => ?_)) h2
  simp only [funcPts, List.mem_cons, List.not_mem_nil, or_false] at hp
  rcases hp with rfl | rfl | rfl | rfl | rfl
  · simp [ptT, ptW]
  · have := itoa_len hi; simp [ptT, ptW]; omega
  · have := itoa_len hf.params; simp [ptT, ptW]; omega
  · have := itoa_len hf.regs; simp [ptT, ptW]; omega
  · have := itoa_len hf.result; simp [ptT, ptW]; omega

end Go.Proofs.YtgohnlcgidmlfaaDoor
