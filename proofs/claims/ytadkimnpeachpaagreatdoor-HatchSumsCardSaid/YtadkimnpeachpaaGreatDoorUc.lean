/- Expressions in the call's own memory; append of one. -/
import Derived.Test.YtadkimnpeachpaaGreatDoorUb
import Derived.Deep.AppendLies
set_option linter.unusedVariables false
namespace Go.Proofs.YtadkimnpeachpaaGreatDoor
open Go.RowKit

def exsV : List Ex → List Value → List Value
  | e :: es, f :: fs => exCells e f ++ exsV es fs
  | _, _ => []
theorem exsV_len : ∀ {es : List Ex} {fs : List Value}, es.length = fs.length → (exsV es fs).length = es.length * 5
  | [], [], _ => rfl
  | e :: es, f :: fs, h => by
    show (exCells e f ++ exsV es fs).length = _
    rw [List.length_append, exsV_len (by simpa using h)]
    simp [exCells]; omega
theorem exsV_app : ∀ {es : List Ex} {fs : List Value} (e : Ex) (u : Value), es.length = fs.length → exsV (es ++ [e]) (fs ++ [u]) = exsV es fs ++ exCells e u
  | [], [], e, u, _ => by simp [exsV]
  | d :: es, f :: fs, e, u, h => by
    show exCells d f ++ exsV (es ++ [e]) (fs ++ [u]) = _
    rw [exsV_app e u (by simpa using h)]
    simp [exsV]
theorem exsV_get : ∀ {es : List Ex} {fs : List Value} (h : es.length = fs.length) (k : Nat) (hk : k < es.length) (i : Nat) (hi : i < 5), (exsV es fs)[k * 5 + i]? = (exCells es[k] (fs[k]'(by omega)))[i]?
  | e :: es, f :: fs, h, 0, hk, i, hi => by
    show (exCells e f ++ exsV es fs)[0 * 5 + i]? = _
    rw [Nat.zero_mul, Nat.zero_add, List.getElem?_append_left (by simpa [exCells] using hi)]
    rfl
  | e :: es, f :: fs, h, k + 1, hk, i, hi => by
    show (exCells e f ++ exsV es fs)[(k + 1) * 5 + i]? = _
    rw [show (k + 1) * 5 + i = 5 + (k * 5 + i) from by omega, List.getElem?_append_right (by simp [exCells])]
    rw [show 5 + (k * 5 + i) - (exCells e f).length = k * 5 + i from by simp [exCells]]
    exact exsV_get (by simpa using h) k (by simpa using hk) i hi
theorem exCells_one (e : Ex) (u : Value) (hu : u.oneCell' = true) : ∀ x ∈ exCells e u, x.oneCell' = true := by
  intro x hx
  simp [exCells] at hx
  rcases hx with rfl | rfl | rfl | rfl | rfl
  · rfl
  · rfl
  · rfl
  · rfl
  · exact hu
theorem IsExs.one {w : World} {S : Nat → Prop} {es : List Ex} {v : Value} (h : IsExs w S es v) : v.oneCell' = true := by
  cases h; rfl

/-- the slice v of the expressions es lies in the call's own memory from base on -/
def OwnEx (w : World) (base : Nat) (v : Value) (es : List Ex) : Prop :=
  ∃ fs : List Value, es.length = fs.length ∧ w.ownsRow base 24 5 v es.length (exsV es fs) ∧
    ∀ (k : Nat) (hk : k < es.length) (hk' : k < fs.length), es[k].name.length ≤ 140737488355328 ∧ IsExs w (fun b => base ≤ b ∧ b < w.heap.size ∧ v.ownBlock ≠ some b) es[k].args fs[k]
theorem OwnEx.exs {w : World} {base : Nat} {v : Value} {es : List Ex} (h : OwnEx w base v es) : IsExs w (fun b => base ≤ b ∧ b < w.heap.size) es v := by
  obtain ⟨fs, hl, hown, hin⟩ := h
  have hlt := hown.lt
  have hcell : ∀ (g : Nat), v.ownBlock = some g → ∀ (j : Nat) (u : Value), (exsV es fs)[j]? = some u → w.cell? ⟨g, 0 + j, none⟩ = some u := fun g hg j u hu => by
    have := hown.cells hg j u hu
    rw [add_pl] at this
    exact this
  rcases hown.2 with ⟨rfl, h2⟩ | ⟨g, cap, cur, rfl, hbg, hg, hc1, hc2, _⟩
  · have he : es = [] := List.eq_nil_of_length_eq_zero h2
    subst he
    exact .mk [] none 0 (fun _ => undef) (Nat.le_refl _) (by omega) (fun k hk => absurd hk (by simp)) (fun k hk => absurd hk (by simp))
  · refine .mk es _ cap (fun k => fs.getD k undef) hc1 (by unfold maxLen at hc2; omega) (fun k hk => ?_) (fun k hk => ?_)
    · have hk' : k < fs.length := by omega
      have hgd : fs.getD k undef = fs[k] := by rw [List.getD_eq_getElem?_getD, List.getElem?_eq_getElem hk']; rfl
      refine ⟨g, 0, rfl, ⟨hbg, (hlt g rfl).2⟩, (hin k hk hk').1, ?_, ?_, ?_, ?_, ?_⟩
      · exact hcell g rfl (k * 5) _ (by have := exsV_get hl k hk 0 (by omega); rw [Nat.add_zero] at this; rw [this]; rfl)
      · exact hcell g rfl (k * 5 + 1) _ (by rw [exsV_get hl k hk 1 (by omega)]; rfl)
      · exact hcell g rfl (k * 5 + 2) _ (by rw [exsV_get hl k hk 2 (by omega)]; rfl)
      · exact hcell g rfl (k * 5 + 3) _ (by rw [exsV_get hl k hk 3 (by omega)]; rfl)
      · rw [hgd]
        exact hcell g rfl (k * 5 + 4) _ (by rw [exsV_get hl k hk 4 (by omega)]; rfl)
    · have hk' : k < fs.length := by omega
      have hgd : fs.getD k undef = fs[k] := by rw [List.getD_eq_getElem?_getD, List.getElem?_eq_getElem hk']; rfl
      show IsExs w _ es[k].args (fs.getD k undef)
      rw [hgd]
      exact (hin k hk hk').2.keep (fun _ _ => rfl) (fun b hb => ⟨hb.1, hb.2.1⟩)
theorem OwnEx.below {w w' : World} {base : Nat} {v : Value} {es : List Ex} (h : OwnEx w base v es) (hb : Below w.heap.size w w') : OwnEx w' base v es := by
  obtain ⟨fs, hl, hown, hin⟩ := h
  refine ⟨fs, hl, ?_, fun k hk hk' => ⟨(hin k hk hk').1, (hin k hk hk').2.keep (fun b hb2 => hb.block b hb2.2.1) (fun b hb2 => ⟨hb2.1, Nat.lt_of_lt_of_le hb2.2.1 hb.size, hb2.2.2⟩)⟩⟩
  rcases hown with ⟨h1, h2 | ⟨g, cap, cur, hv, hbg, hg, h3⟩⟩
  · exact ⟨h1, .inl h2⟩
  · refine ⟨h1, .inr ⟨g, cap, cur, hv, hbg, ?_, h3⟩⟩
    have hlt : g < w.heap.size := by
      rcases Nat.lt_or_ge g w.heap.size with hlt | hge
      · exact hlt
      · rw [Array.getElem?_eq_none hge] at hg; cases hg
    exact (hb.block g hlt).trans hg
theorem OwnEx.nil (w : World) : OwnEx (w.alloc (.cells #[] 24)) w.heap.size (.slice (some ⟨w.heap.size, 0, none⟩) 0 0) [] :=
  ⟨[], rfl, World.ownsRow_lit (e := 24) (size := 5) w #[] 0 (Nat.le_refl _) (by unfold maxLen; omega) rfl, fun k hk => absurd hk (by simp)⟩

theorem info_ex : (Tryz.prog.info? 24).map (fun i => (i.zero, i.size, i.bytes)) = some (some (.agg #[.int .i64 0, .int .i64 0, .int .i64 0, .string ⟨#[]⟩, .slice none 0 0]), 5, 64) := by kernel_rfl

/-- append of one expression whose arguments lie apart -/
theorem wpList_append_ex {ops : Array Oper} {rest : List Oper} {o : Oper} {a : Act} {w : World} {Q : Exit → Act → World → Prop} (hgd : o.guard = none) (s x : Operand)
    (ho : o.op = .call { callee := .builtin .append, args := #[s, x], argTypes := #[22, 22] })
    (base : Nat) (v : Value) (es : List Ex) (hs : a.eval s = v) (hown : OwnEx w base v es) (ad : Addr) (c : Nat) (e : Ex) (u : Value) (hx : a.eval x = .slice (some ad) 1 c)
    (hnews : ∀ j y, (exCells e u)[j]? = some y → w.cell? (ad.add j) = some y) (hu : IsExs w (fun b => base ≤ b ∧ b < w.heap.size ∧ v.ownBlock ≠ some b) e.args u) (hen : e.name.length ≤ 140737488355328) (hb : es.length ≤ 1000000) (hbase : base ≤ w.heap.size)
    (h : ∀ v' w', OwnEx w' base v' (es ++ [e]) → w.grownBy w' v.ownBlock → wpList Tryz.prog ops Q rest (a.put o.dst v') w') : wpList Tryz.prog ops Q (o :: rest) a w := by
  obtain ⟨i0, hi, hz0, hz1, hz2⟩ := info_parts info_ex
  obtain ⟨fs, hl, hrow, hin⟩ := hown
  refine wpList_append_lies _ hgd s x 22 ho base 24 i0 _ 5 64 Tryz.underlying22 hi hz0 hz1 hz2 rfl (by decide) v es.length (exsV es fs) hs hrow ad 1 c (exCells e u) hx rfl hnews (exCells_one e u hu.one)
    (by omega) (by unfold maxLen; omega) (by omega) hbase w.heap.size rfl fun g cap w' hown' hgr hat hlt => h _ w' ?_ hgr
  have hkeep : ∀ b, (base ≤ b ∧ b < w.heap.size ∧ v.ownBlock ≠ some b) → w'.heap[b]? = w.heap[b]? := fun b hb => hgr.block b hb.2.1 (fun e => hb.2.2 e.symm)
  have hS : ∀ b, (base ≤ b ∧ b < w.heap.size ∧ v.ownBlock ≠ some b) → (base ≤ b ∧ b < w'.heap.size ∧ (Value.slice (some ⟨g, 0, none⟩) (es.length + 1) cap).ownBlock ≠ some b) := fun b hb => by
    have hsz := hgr.size
    refine ⟨hb.1, by omega, fun e => ?_⟩
    have e' : g = b := by simpa [Value.ownBlock] using e
    rcases hat with hat | hat
    · exact hb.2.2 (by rw [hat, e'])
    · omega
  refine ⟨fs ++ [u], by simp [hl], ?_, fun k hk hk' => ?_⟩
  · rw [List.length_append, exsV_app e u hl]
    exact hown'
  · by_cases hke : k < es.length
    · have hkf : k < fs.length := by omega
      rw [List.getElem_append_left hke, List.getElem_append_left hkf]
      exact ⟨(hin k hke hkf).1, (hin k hke hkf).2.keep hkeep hS⟩
    · have hk0 : k = es.length := by simp at hk; omega
      subst hk0
      have e1 : (es ++ [e])[es.length] = e := by simp
      have e2 : (fs ++ [u])[es.length]'hk' = u := by
        rw [List.getElem_append_right (by omega)]
        simp [hl]
      rw [e1, e2]
      exact ⟨hen, hu.keep hkeep hS⟩

end Go.Proofs.YtadkimnpeachpaaGreatDoor
