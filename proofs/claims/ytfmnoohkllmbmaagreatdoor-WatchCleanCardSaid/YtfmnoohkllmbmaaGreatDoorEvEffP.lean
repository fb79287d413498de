/- The evaluator: EvEffP. -/
import Derived.Test.YtfmnoohkllmbmaaGreatDoorEvNewP
import Derived.Laws.Append
set_option linter.unusedVariables false
set_option linter.unusedSimpArgs false
namespace Go.Proofs.YtfmnoohkllmbmaaGreatDoor
namespace Ev
open Go.RowKit

theorem cellsOnly_ok {c : Cx} : ∀ {xs : List AV} {ys : List Value}, cellsOnly xs = true → LR c xs ys → ∀ v ∈ ys, v.oneCell' = true
  | [], ys, _, hl, v, hv => by
    have : ys = [] := List.eq_nil_of_length_eq_zero hl.len.symm
    subst this
    cases hv
  | x :: xs, [], _, hl, v, hv => by cases hv
  | x :: xs, y :: ys, h, hl, v, hv => by
    unfold cellsOnly at h
    split at h
    · rename_i hx
      cases hv with
      | head => exact hl.head.isCell hx
      | tail _ hv => exact cellsOnly_ok h hl.tail v hv
    · cases h

/-- only one block is another one -/
structure OnlyAt (b : Nat) (w w' : World) : Prop where
  os : w'.os = w.os
  tape : w'.tape = w.tape
  output : w'.output = w.output
  size : w'.heap.size = w.heap.size
  other : ∀ k, k ≠ b → w'.heap[k]? = w.heap[k]?

theorem OnlyAt.below {b B : Nat} {w0 w w' : World} (h : OnlyAt b w w') (hb : Below B w0 w) (hB : B ≤ b) : Below B w0 w' :=
  ⟨h.os.trans hb.os, h.tape.trans hb.tape, h.output.trans hb.output, by rw [h.size]; exact hb.size, fun k hk => (h.other k (by omega)).trans (hb.block k hk)⟩

theorem onlyAt_setRow (w : World) (b : Nat) (cs : Array Value) : OnlyAt b w (w.setRow b cs) := ⟨rfl, rfl, rfl, by simp, fun k hk => setRow_other w b k cs hk⟩

section
variable {P : Program} {E : Env} (HE : EnvOk P E) {c : Cx} {B : Nat} {h : T ABk} {w : World} (H : HR c B h w)

include H in
/-- cells are stored -/
theorem HR.store {b o b' : Nat} {xs : List AV} {ys : List Value} {h' : T ABk} (hb : c.ρ b = some b') (he : wr h b o xs = some h') (hl : LR c xs ys) :
    ∃ w', (storeCells ⟨b', o, none⟩ ys 0).run P w = .ok () w' ∧ OnlyAt b' w w' ∧ B ≤ b' ∧ HR c B h' w' ∧ (∀ i, i ≠ b → h'.get i = h.get i) ∧
      (∃ e sz g cs cs', h.get b = some (.cells e sz g false cs) ∧ h' = h.put (some (.cells e sz g false cs')) b ∧ over cs o xs = some cs') := by
  unfold wr at he
  split at he
  · cases he
  · rename_i hco
    split at he
    · rename_i e sz g cs hg
      split at he
      · rename_i cs' hov
        cases he
        obtain ⟨arr, fz, hw, hle, hp, hro, hg1, hg2⟩ := H.cells hg hb
        obtain ⟨rfl, hB⟩ := hro rfl
        obtain ⟨o1, o2, o3⟩ := over_some _ _ _ _ hov
        have hll := hl.len
        have hrun := run_storeCells_at P b' o e ys 0 arr w hw (by omega) (cellsOnly_ok hco hl)
        simp only [Nat.add_zero] at hrun
        refine ⟨_, hrun, onlyAt_setRow w b' _, hB, ?_, fun i hi => by rw [T.get_put, if_neg hi], e, sz, g, cs, cs', hg, rfl, hov⟩
        refine H.write hg hb (setRow_heap w b' arr _ e (0, 0) hw) (fun k hk => setRow_other w b' k _ hk) ?_
        have hsz : (arr.toList.take o ++ ys ++ arr.toList.drop (o + ys.length)).toArray.size = arr.size := by simp; omega
        refine ⟨rfl, by omega, fun k a ha => ?_, fun _ => ⟨rfl, hB⟩, fun hg' => by rw [hsz, o1]; exact hg1 hg', fun hg' => by rw [hsz]; exact hg2 hg'⟩
        rw [o3 k] at ha
        have hget : (arr.toList.take o ++ ys ++ arr.toList.drop (o + ys.length)).toArray[k]? = if o ≤ k ∧ k < o + ys.length then ys[k - o]? else arr[k]? := by
          rw [List.getElem?_toArray]
          by_cases h1 : k < o
          · rw [if_neg (by omega), List.append_assoc, List.getElem?_append_left (by simp; omega), List.getElem?_take, if_pos h1, Array.getElem?_toList]
          · by_cases h2 : k < o + ys.length
            · rw [if_pos (by omega), List.append_assoc, List.getElem?_append_right (by simp; omega), List.getElem?_append_left (by simp; omega)]
              congr 1
              simp
              omega
            · rw [if_neg (by omega), List.getElem?_append_right (by simp; omega), List.getElem?_drop]
              rw [← Array.getElem?_toList]
              congr 1
              simp
              omega
        rw [hget]
        by_cases hk : o ≤ k ∧ k < o + xs.length
        · rw [if_pos hk] at ha
          rw [if_pos (by omega)]
          exact hl.get ha
        · rw [if_neg hk] at ha
          rw [if_neg (by omega)]
          exact hp k a ha
      · cases he
    · cases he

include H in
/-- a block goes on under another number -/
theorem HR.renew {i n b : Nat} {x y : ABk} {o : Obj} {w' : World} (hx : h.get i = some x) (hb : c.ρ i = some b) (hn : c.ρ n = none)
    (hw : w'.heap[b]? = some o) (ho : ∀ k, k ≠ b → w'.heap[k]? = w.heap[k]?) (hr : BR (c.add n b (c.κ i)) (c.κ i) B b y o) : HR (c.add n b (c.κ i)) B ((Ev.rm h i).put (some y) n) w' := by
  have hin : i ≠ n := fun e => by rw [e, hn] at hb; cases hb
  have old : ∀ j z, j ≠ n → ((Ev.rm h i).put (some y) n).get j = some z → h.get j = some z ∧ j ≠ i := fun j z hj hz => by
    rw [T.get_put, if_neg hj] at hz
    unfold Ev.rm at hz
    rw [T.get_put] at hz
    split at hz
    · cases hz
    · exact ⟨hz, ‹_›⟩
  have oldρ : ∀ j, j ≠ n → (c.add n b (c.κ i)).ρ j = c.ρ j := fun j hj => by simp [Cx.add, hj]
  refine ⟨fun j z b' hj hjb => ?_, fun j k z z' b' hj hk hjb hkb => ?_⟩
  · by_cases hjn : j = n
    · subst hjn
      rw [Cx.add_ρ] at hjb
      cases hjb
      rw [T.get_put, if_pos rfl] at hj
      cases hj
      rw [Cx.add_κ]
      exact ⟨o, hw, hr⟩
    · obtain ⟨g1, g2⟩ := old j z hjn hj
      rw [oldρ j hjn] at hjb
      have hne : b' ≠ b := fun e => g2 (H.inj j i z x b' g1 hx hjb (e ▸ hb))
      obtain ⟨o', ho', hr'⟩ := H.bk j z b' g1 hjb
      refine ⟨o', (ho b' hne).trans ho', ?_⟩
      have : (c.add n b (c.κ i)).κ j = c.κ j := by simp [Cx.add, hjn]
      rw [this]
      exact hr'.mono (Cx.le_add _ _ hn)
  · by_cases hjn : j = n
    · by_cases hkn : k = n
      · rw [hjn, hkn]
      · subst hjn
        rw [Cx.add_ρ] at hjb
        cases hjb
        obtain ⟨g1, g2⟩ := old k z' hkn hk
        rw [oldρ k hkn] at hkb
        exact absurd (H.inj k i z' x b g1 hx hkb hb) g2
    · by_cases hkn : k = n
      · subst hkn
        rw [Cx.add_ρ] at hkb
        cases hkb
        obtain ⟨g1, g2⟩ := old j z hjn hj
        rw [oldρ j hjn] at hjb
        exact absurd (H.inj j i z x b g1 hx hjb hb) g2
      · obtain ⟨g1, g2⟩ := old j z hjn hj
        obtain ⟨g3, g4⟩ := old k z' hkn hk
        rw [oldρ j hjn] at hjb
        rw [oldρ k hkn] at hkb
        exact H.inj j k z z' b' g1 g3 hjb hkb

end

/-- an operation that writes -/
def EffOk (P : Program) (w0 : World) (B : Nat) (c : Cx) (h : T ABk) (nx : Nat) (w : World) (s : Sem Next) (v : AV) (h' : T ABk) (nx' : Nat) : Prop :=
  ∃ c' w' val, (s.run P w = .ok (.value val) w' ∨ (s.run P w = .ok .skip w' ∧ val = undef)) ∧ c.ext nx c' ∧ SR w0 B c' h' nx' w' ∧ VR c' v val ∧ nx ≤ nx' ∧
    ∀ i, i < nx → c.ρ i = none → h'.get i = h.get i

section
variable {P : Program} {E : Env} (HE : EnvOk P E) {c : Cx} {B : Nat} {h : T ABk} {w w0 : World} {nx : Nat} (S : SR w0 B c h nx w)

theorem T.top_put {h : T ABk} {n i : Nat} {x : Option ABk} (ht : ∀ i x, h.get i = some x → i < n) (hi : i < n) : ∀ j y, (h.put x i).get j = some y → j < n := fun j y hj => by
  rw [T.get_put] at hj
  split at hj
  · rename_i e; omega
  · exact ht j y hj

theorem T.top_rm {h : T ABk} {n i : Nat} (ht : ∀ i x, h.get i = some x → i < n) : ∀ j y, (rm h i).get j = some y → j < n := fun j y hj => by
  unfold rm at hj
  rw [T.get_put] at hj
  split at hj
  · cases hj
  · exact ht j y hj

theorem SR.unused {w0 w : World} {B nx : Nat} {c : Cx} {h : T ABk} (S : SR w0 B c h nx w) : c.ρ nx = none := by
  cases hh : c.ρ nx with
  | none => rfl
  | some b => exact absurd (S.fresh nx b hh) (by omega)

theorem Cx.fresh_add {c : Cx} {nx b κ : Nat} (hf : ∀ i b, c.ρ i = some b → i < nx) : ∀ i b', (c.add nx b κ).ρ i = some b' → i < nx + 1 := by
  intro i b' hi
  by_cases h : i = nx
  · omega
  · have : c.ρ i = some b' := by simpa [Cx.add, h] using hi
    have := hf i b' this
    omega

/-- a new block, at the end of the memory, under the next number -/
theorem SR.new {w0 w w1 : World} {B nx κ : Nat} {c : Cx} {h : T ABk} (S : SR w0 B c h nx w) (hw : w1 = w ∨ w1 = w.drew) {x : ABk} {o : Obj} (hb : BR (c.add nx w.heap.size κ) κ B w.heap.size x o) :
    SR w0 B (c.add nx w.heap.size κ) (h.put (some x) nx) (nx + 1) (w1.alloc o) := by
  have S1 : SR w0 B c h nx w1 := by rcases hw with rfl | rfl; exact S; exact S.drew
  have hs : w1.heap.size = w.heap.size := by rcases hw with rfl | rfl <;> rfl
  rw [← hs] at hb ⊢
  refine ⟨S1.below.alloc S1.size o, by have := S1.size; show B ≤ (w1.heap.push o).size; simp; omega, ?_, Cx.fresh_add S1.fresh, T.top_put (fun i x hi => Nat.lt_succ_of_lt (S1.top i x hi)) (Nat.lt_succ_self _)⟩
  exact (S1.heap.put_free S1.unused (some x)).new S1.unused (by rw [T.get_put, if_pos rfl]) o hb

theorem run_append_any (ts : Array TypeId) (t u ty e : TypeId) (ht0 : ts[0]? = some t) (ht1 : ts[1]? = some u) (i : TypeInfo) (z : Value) (eu : TypeId) (ht : P.underlying t = some (.slice e)) (hu : P.underlying u = some (.slice eu))
    (hi : P.info? e = some i) (hz : i.zero = some z) (base : Option Addr) (sLen sCap m : Nat) (x : Value) (news : Array Value)
    (h1 : (Builtin.lenOf x).run P w = .ok m w) (h2 : (Builtin.firstCells i.size m x).run P w = .ok news w) (h2' : (Builtin.firstCells i.size m x).run P w.drew = .ok news w.drew) :
    (sLen + m ≤ sCap → ∀ w', (match base with | some a => (storeCells (a.add (sLen * i.size)) news.toList).run P w | none => .ok () w) = .ok () w' →
      (Builtin.append_ ts ty #[.slice base sLen sCap, x]).run P w = .ok (.slice base (sLen + m) sCap) w') ∧
    (sCap < sLen + m → (sLen + m) * i.bytes ≤ 140737488355328 → sLen + m ≤ 9223372036854775807 → ∀ olds, (Builtin.firstCells i.size sLen (.slice base sLen sCap)).run P w.drew = .ok olds w.drew →
      (Builtin.append_ ts ty #[.slice base sLen sCap, x]).run P w =
        .ok (.slice (some ⟨w.heap.size, 0, none⟩) (sLen + m) (grownCap w (sLen + m) sCap e)) (w.drew.alloc (.cells (olds ++ news ++ Builtin.zeroCells z.cells (grownCap w (sLen + m) sCap e - (sLen + m))) e))) := by
  have hU : (underlying u).run P w = .ok (.slice eu) w := run_underlying hu w
  refine ⟨fun hfit w' hst => ?_, fun hgr hb h63 olds holds => ?_⟩
  · cases base with
    | none =>
      cases hst
      simp [Builtin.append_, ht0, ht1, run_underlying ht, hU, sizeOf, typeInfo, hi, h1, h2, hfit]
    | some a =>
      simp [Builtin.append_, ht0, ht1, run_underlying ht, hU, sizeOf, typeInfo, hi, h1, h2, hfit, hst]
  · have hn : ¬ (sLen + m ≤ sCap) := by omega
    have h48 := growslice_fits hgr hb
    have h48' : ¬ (281474976710656 < Builtin.nextslicecap (sLen + m) sCap * i.bytes) := by omega
    have h63' : ¬ (9223372036854775807 < ((sLen : Int) + (m : Int))) := by omega
    simp [Builtin.append_, ht0, ht1, run_underlying ht, hU, sizeOf, typeInfo, zeroValue, hi, hz, h1, hn, h63', h48', Question.forced, h2', holds, newRow, grownCap]

end
end Ev
end Go.Proofs.YtfmnoohkllmbmaaGreatDoor
