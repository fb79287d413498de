/- Code that weighs no more than most is small: all its lists are. -/
import Derived.Test.YtgohnlcgidmlfaaDoorMdf
set_option linter.unusedVariables false
set_option linter.unusedSimpArgs false
namespace Go.Proofs.YtgohnlcgidmlfaaDoor
open Go.RowKit

theorem le_sum_mem : ∀ {l : List Nat} {x : Nat}, x ∈ l → x ≤ l.sum
  | y :: l, x, h => by
    rw [List.sum_cons]
    rcases List.mem_cons.1 h with rfl | h
    · omega
    · have := le_sum_mem h; omega
theorem goF_ge : ∀ (fs : List Fn) (n most : Int), n ≤ goF fs n most
  | [], n, _ => by rw [goF]; omega
  | f :: fs, n, most => by
    rw [goF]; split
    · have h1 := goF_ge fs (goL (f.code.map (·.args.length)) (n + ((f.name.length : Int) + (f.code.length : Int))) most) most
      have h2 := goL_ge (f.code.map (·.args.length)) (n + ((f.name.length : Int) + (f.code.length : Int))) most
      omega
    · omega
theorem goF_light {most : Int} : ∀ (fs : List Fn) (n : Int), 0 ≤ n → goF fs n most ≤ most → ∀ f ∈ fs, (f.name.length : Int) ≤ most ∧ (f.code.length : Int) ≤ most ∧ ∀ o ∈ f.code, (o.args.length : Int) ≤ most
  | [], n, _, _ => by simp
  | f :: fs, n, h0, h => by
    have hn : n ≤ most := by have := goF_ge (f :: fs) n most; omega
    rw [goF_go hn] at h
    have h1 := goF_ge fs (goL (f.code.map (·.args.length)) (n + ((f.name.length : Int) + (f.code.length : Int))) most) most
    have h2 := goL_sum (f.code.map (·.args.length)) (n + ((f.name.length : Int) + (f.code.length : Int))) most (by omega)
    have ih := goF_light fs _ (by rw [h2]; omega) h
    intro f' hf'
    rcases List.mem_cons.1 hf' with rfl | hf'
    · refine ⟨by omega, by omega, fun o ho => ?_⟩
      have h3 : o.args.length ≤ (f'.code.map (·.args.length)).sum := le_sum_mem (List.mem_map.2 ⟨o, ho, rfl⟩)
      omega
    · exact ih f' hf'

/-- what a weight within most says -/
structure LightM (m : Mo) (most : Int) : Prop where
  fs : (m.funcs.length : Int) ≤ most ∧ ∀ f ∈ m.funcs, (f.name.length : Int) ≤ most ∧ (f.code.length : Int) ≤ most ∧ ∀ o ∈ f.code, (o.args.length : Int) ≤ most
  ls : (m.globals.length : Int) ≤ most ∧ (m.structs.length : Int) ≤ most ∧ (m.chans.length : Int) ≤ most ∧ (m.locks.length : Int) ≤ most ∧ (m.inputs.length : Int) ≤ most ∧ (m.sinks.length : Int) ≤ most ∧ (m.hatches.length : Int) ≤ most ∧ (m.threads.length : Int) ≤ most
theorem lightM {m : Mo} {most : Int} (h : weighM m most ≤ most) : LightM m most := by
  unfold weighM at h
  have k0 := goF_ge m.funcs (sumM m) most
  obtain ⟨a0, ha0⟩ : ∃ x, x = goF m.funcs (sumM m) most := ⟨_, rfl⟩
  rw [← ha0] at h k0
  have k1 := goL_ge (m.globals.map (·.name.length)) a0 most
  obtain ⟨a1, ha1⟩ : ∃ x, x = goL (m.globals.map (·.name.length)) a0 most := ⟨_, rfl⟩
  rw [← ha1] at h k1
  have k2 := goL_ge (m.structs.map (·.name.length)) a1 most
  obtain ⟨a2, ha2⟩ : ∃ x, x = goL (m.structs.map (·.name.length)) a1 most := ⟨_, rfl⟩
  rw [← ha2] at h k2
  have k3 := goL_ge (m.chans.map (·.name.length)) a2 most
  obtain ⟨a3, ha3⟩ : ∃ x, x = goL (m.chans.map (·.name.length)) a2 most := ⟨_, rfl⟩
  rw [← ha3] at h k3
  have k4 := goL_ge (m.locks.map List.length) a3 most
  obtain ⟨a4, ha4⟩ : ∃ x, x = goL (m.locks.map List.length) a3 most := ⟨_, rfl⟩
  rw [← ha4] at h k4
  have k5 := goL_ge (m.inputs.map List.length) a4 most
  obtain ⟨a5, ha5⟩ : ∃ x, x = goL (m.inputs.map List.length) a4 most := ⟨_, rfl⟩
  rw [← ha5] at h k5
  have k6 := goL_ge (m.sinks.map List.length) a5 most
  obtain ⟨a6, ha6⟩ : ∃ x, x = goL (m.sinks.map List.length) a5 most := ⟨_, rfl⟩
  rw [← ha6] at h k6
  have k7 := goL_ge (m.hatches.map List.length) a6 most
  have hs : sumM m ≤ most := by omega
  have hg : a0 ≤ most := by omega
  rw [ha0] at hg
  have hs0 : 0 ≤ sumM m := by unfold sumM; omega
  refine ⟨⟨?_, goF_light m.funcs (sumM m) hs0 hg⟩, ?_⟩ <;> (unfold sumM at hs; omega)
/-- so the contract of CopyModule serves -/
theorem lightM.copy {m : Mo} {most : Int} (h : LightM m most) (hm : most ≤ 1000000) :
    (m.funcs.length ≤ 1000000 ∧ ∀ f ∈ m.funcs, f.code.length ≤ 1000000 ∧ ∀ o ∈ f.code, o.args.length ≤ 1000000) ∧ (m.globals.length ≤ 1000000 ∧ m.structs.length ≤ 1000000 ∧ m.chans.length ≤ 1000000 ∧ m.locks.length ≤ 1000000 ∧ m.inputs.length ≤ 1000000 ∧ m.sinks.length ≤ 1000000 ∧ m.hatches.length ≤ 1000000 ∧ m.threads.length ≤ 1000000) := by
  obtain ⟨⟨hf, hfs⟩, hl⟩ := h
  refine ⟨⟨by omega, fun f hm' => ⟨?_, fun o ho => ?_⟩⟩, by omega⟩
  · have := (hfs f hm').2.1; omega
  · have := (hfs f hm').2.2 o ho; omega

end Go.Proofs.YtgohnlcgidmlfaaDoor
