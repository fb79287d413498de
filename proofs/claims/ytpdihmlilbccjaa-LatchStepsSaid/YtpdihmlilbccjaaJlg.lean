/- Lists of numbers and scripts, read out of the memory that a caller hands over. -/
import Derived.Test.YtpdihmlilbccjaaJlf
import Derived.WideShapes
set_option linter.unusedVariables false
set_option linter.unusedSimpArgs false
set_option maxRecDepth 100000
namespace Go.Proofs.Ytpdihmlilbccjaa
open Go.RowKit

/-- the list xs lies at the slice v, in blocks of S; of its length nothing is said but that the machine can count it -/
def Scr {α : Type} (E : Kd α) (w : World) (S : Nat → Prop) (xs : List α) (v : Value) : Prop :=
  ∃ (A : Option Addr) (c : Nat) (row : Nat → List Value), v = .slice A xs.length c ∧ xs.length ≤ c ∧ c ≤ 9223372036854775807 ∧
    ∀ (k : Nat) (hk : k < xs.length), ∃ b off, A = some ⟨b, off, none⟩ ∧ S b ∧ E.Q w S xs[k] (row k) ∧ ∀ j, j < E.sz → w.cell? ⟨b, off + k * E.sz + j, none⟩ = (row k)[j]?
theorem cells_at {w : World} {base : Nat} {a : Addr} {n : Nat} {cs : List Value} (h : w.cells? base a n = some cs) : cs.length = n ∧ ∀ i, i < n → w.cell? (a.add i) = cs[i]? := by
  unfold World.cells? at h
  split at h
  · have h1 := mapM_some_length h
    refine ⟨by simpa using h1, fun i hi => ?_⟩
    have := mapM_some_get h i i (by simp [hi])
    exact this
  · cases h
theorem cell_in {w : World} {a : Addr} {v : Value} (h : w.cell? a = some v) : a.block < w.heap.size ∧ a.spot = none := by
  unfold World.cell? at h
  split at h
  · rename_i c e z hc
    refine ⟨?_, ?_⟩
    · exact heap_lt hc
    · split at h
      · cases h
      · rename_i hs
        cases hsp : a.spot with
        | none => rfl
        | some q => rw [hsp] at hs; simp at hs
  · cases h
section
variable {H : Type} {enc : TypeId × Value → H} {P : Program} {w : World} {base : Nat} {spare : Nat → Bool} {held : Bool}
theorem opens_scr {α : Type} {E : Kd α} {st e : TypeId} (ht : P.underlying st = some (.slice e)) (hsz : P.cellsOf e = E.sz) (hby : 1 ≤ P.bytesOf e)
    (elem : ∀ (n : Nat) (cs : List Value) (x : DataW H × List MemPlace), cs.length = E.sz → DataW.trod enc P w base spare held n e cs = some x → ∃ a, E.Q w (· < w.heap.size) a cs)
    (fuel : Nat) (v : Value) (x : DataW H × List MemPlace) (h : DataW.trod enc P w base spare held fuel st [v] = some x) : ∃ xs, Scr E w (· < w.heap.size) xs v := by
  rcases DataW.trod_slice ht h with ⟨hcs, hx⟩ | ⟨a, len, cap, elems, rest, n, hfu, hcs, hx, hbase, hlc, hcap, hlen, hel, -, -⟩
  · obtain rfl : v = .slice none 0 0 := by simpa using hcs
    exact ⟨[], none, 0, fun _ => [], rfl, Nat.le_refl _, by omega, fun k hk => absurd hk (by simp)⟩
  · obtain rfl : v = .slice (some a) len cap := by simpa using hcs
    rw [hsz] at hel
    have hone : ∀ i, i < len → ∃ (cs : List Value) (b : α), w.cells? base (a.add (i * E.sz)) E.sz = some cs ∧ E.Q w (· < w.heap.size) b cs := by
      intro i hi
      have h1 := hel i hi
      have hie : i < elems.length := by omega
      rw [List.getElem?_eq_getElem hie] at h1
      obtain ⟨cs, h2, h3⟩ := Option.bind_eq_some_iff.1 h1
      obtain ⟨b, hb⟩ := elem n cs elems[i] (cells_at h2).1 h3
      exact ⟨cs, b, h2, hb⟩
    by_cases h0 : len = 0
    · subst h0
      exact ⟨[], some a, cap, fun _ => [], rfl, by simp, by unfold maxLen at hcap; omega, fun k hk => absurd hk (by simp)⟩
    · obtain ⟨cs0, b0, _, hb0⟩ := hone 0 (by omega)
      have htot : ∀ i, ∃ p : α × List Value, i < len → w.cells? base (a.add (i * E.sz)) E.sz = some p.2 ∧ E.Q w (· < w.heap.size) p.1 p.2 := fun i => by
        by_cases hi : i < len
        · obtain ⟨cs, e, h1, h2⟩ := hone i hi
          exact ⟨(e, cs), fun _ => ⟨h1, h2⟩⟩
        · exact ⟨(b0, []), fun h => absurd h hi⟩
      obtain ⟨F, hF⟩ := Classical.axiomOfChoice htot
      have hl : ((List.range len).map fun i => (F i).1).length = len := by simp
      have hat : ∀ k, k < len → ∀ j, j < E.sz → w.cell? ((a.add (k * E.sz)).add j) = (F k).2[j]? := fun k hk => (cells_at (hF k hk).1).2
      have hsp : a.spot = none := by
        have hq := hF 0 (by omega)
        have hz : 0 < (F 0).2.length := by rw [E.len hq.2]; exact E.pos
        have := hat 0 (by omega) 0 E.pos
        rw [List.getElem?_eq_getElem hz] at this
        have := (cell_in this).2
        simpa [Addr.add] using this
      obtain ⟨b, off, rfl⟩ : ∃ b off, a = ⟨b, off, none⟩ := ⟨a.block, a.off, by cases a; simp at hsp; rw [hsp]⟩
      simp only [add_none] at hat
      refine ⟨(List.range len).map fun i => (F i).1, some ⟨b, off, none⟩, cap, fun k => (F k).2, by rw [hl], by rw [hl]; exact hlc, by unfold maxLen at hcap; omega, fun k hk => ?_⟩
      rw [hl] at hk
      have hq := hF k hk
      have hz : 0 < (F k).2.length := by rw [E.len hq.2]; exact E.pos
      refine ⟨b, off, rfl, ?_, by simpa using hq.2, hat k hk⟩
      have := hat k hk 0 E.pos
      rw [List.getElem?_eq_getElem hz] at this
      exact (cell_in this).1

theorem int_range {n : Int} (h : (Lit.int .i64 n).wf = true) : In64 n := by
  have hmin : IntKind.i64.min = -9223372036854775808 := rfl
  have hmax : IntKind.i64.max = 9223372036854775807 := rfl
  simp only [Lit.wf, Bool.and_eq_true, decide_eq_true_eq] at h
  exact ⟨by omega, by omega⟩
theorem open_i {t : TypeId} {fuel : Nat} {v : Value} {x : DataW H × List MemPlace} (ht : P.underlying t = some (.int .i64)) (h : DataW.trod enc P w base spare held fuel t [v] = some x) : ∃ n, v = .int .i64 n ∧ In64 n := by
  obtain ⟨n, h1, h2, h3⟩ := DataW.trod_int ht h
  exact ⟨n, by simpa using h1, int_range h3⟩
end

/-- numbers -/
def KN : Kd Int where
  sz := 1
  pos := by decide
  Q := fun _ _ n cs => cs = [.int .i64 n] ∧ In64 n
  keep := fun h _ _ => h
  len := fun h => by rw [h.1]; rfl
  one := fun h u hu => by rw [h.1] at hu; simp at hu; subst hu; rfl
/-- where an element lies -/
theorem Scr.num {w : World} {S : Nat → Prop} {xs : List Int} {A : Option Addr} {n c : Nat} (h : Scr KN w S xs (.slice A n c)) (k : Nat) (hk : k < xs.length) : ∃ b off, A = some ⟨b, off, none⟩ ∧ S b ∧ w.cell? ⟨b, off + k, none⟩ = some (.int .i64 xs[k]) ∧ In64 xs[k] := by
  obtain ⟨A', c', row, e, h1, h2, hA⟩ := h
  cases e
  obtain ⟨b, off, e, hb, ⟨hq, hin⟩, hc⟩ := hA k hk
  refine ⟨b, off, e, hb, ?_, hin⟩
  have := hc 0 (by decide)
  rw [hq, show off + k * KN.sz + 0 = off + k from by show off + k * 1 + 0 = off + k; omega] at this
  exact this
theorem Scr.form {α : Type} {E : Kd α} {w : World} {S : Nat → Prop} {xs : List α} {v : Value} (h : Scr E w S xs v) : ∃ A c, v = .slice A xs.length c ∧ xs.length ≤ c ∧ c ≤ 9223372036854775807 := by
  obtain ⟨A, c, row, rfl, h1, h2, -⟩ := h
  exact ⟨A, c, rfl, h1, h2⟩
theorem Scr.nil_ {α : Type} (E : Kd α) (w : World) (S : Nat → Prop) : Scr E w S [] (.slice none 0 0) := ⟨none, 0, fun _ => [], rfl, Nat.le_refl _, by omega, fun k hk => absurd hk (by simp)⟩

/-- a call -/
structure Cl where
  what : Int
  lock : Int
  th : Int
def clRow (o : Cl) : List Value := [.int .i64 o.what, .int .i64 o.lock, .int .i64 o.th]
structure Cl.In (o : Cl) : Prop where
  what : In64 o.what
  lock : In64 o.lock
  th : In64 o.th
def KC : Kd Cl where
  sz := 3
  pos := by decide
  Q := fun _ _ o cs => cs = clRow o ∧ o.In
  keep := fun h _ _ => h
  len := fun h => by rw [h.1]; rfl
  one := fun h u hu => by rw [h.1] at hu; simp [clRow] at hu; rcases hu with rfl | rfl | rfl <;> rfl
theorem Scr.call {w : World} {S : Nat → Prop} {xs : List Cl} {A : Option Addr} {n c : Nat} (h : Scr KC w S xs (.slice A n c)) (k : Nat) (hk : k < xs.length) : ∃ b off, A = some ⟨b, off, none⟩ ∧ S b ∧
    w.cell? ⟨b, off + k * 3, none⟩ = some (.int .i64 xs[k].what) ∧ w.cell? ⟨b, off + k * 3 + 1, none⟩ = some (.int .i64 xs[k].lock) ∧ w.cell? ⟨b, off + k * 3 + 2, none⟩ = some (.int .i64 xs[k].th) ∧ xs[k].In := by
  obtain ⟨A', c', row, e, h1, h2, hA⟩ := h
  cases e
  obtain ⟨b, off, e, hb, ⟨hq, hin⟩, hc⟩ := hA k hk
  have hh : ∀ j (u : Value), j < 3 → (clRow xs[k])[j]? = some u → w.cell? ⟨b, off + k * 3 + j, none⟩ = some u := fun j u hj hu => by
    have := hc j hj
    rw [hq, hu] at this
    exact this
  exact ⟨b, off, e, hb, hh 0 _ (by decide) rfl, hh 1 _ (by decide) rfl, hh 2 _ (by decide) rfl, hin⟩
theorem t_struct_3 {H : Type} {enc : TypeId × Value → H} {P : Program} {w : World} {base : Nat} {spare : Nat → Bool} {held : Bool} {t : TypeId} {f0 f1 f2 : Field} {fuel : Nat} {cs : List Value} {x : DataW H × List MemPlace}
    (ht : P.underlying t = some (.struct #[f0, f1, f2])) (h : DataW.trod enc P w base spare held fuel t cs = some x) :
    ∃ (x0 x1 x2 : DataW H × List MemPlace) (n : Nat), x.1 = .agg [x0.1, x1.1, x2.1] ∧ cs.length = P.cellsOf t ∧ DataW.trod enc P w base spare held n f0.type ((cs.drop f0.offset).take (P.cellsOf f0.type)) = some x0 ∧ DataW.trod enc P w base spare held n f1.type ((cs.drop f1.offset).take (P.cellsOf f1.type)) = some x1 ∧ DataW.trod enc P w base spare held n f2.type ((cs.drop f2.offset).take (P.cellsOf f2.type)) = some x2 := by
  obtain ⟨xs, n, hn, rfl, hl, hlen, hf⟩ := DataW.trod_struct ht h
  match xs, hlen with
  | [x0, x1, x2], _ => exact ⟨x0, x1, x2, n, rfl, hl, hf 0 f0 rfl, hf 1 f1 rfl, hf 2 f2 rfl⟩

section
variable {H : Type} {enc : TypeId × Value → H} {w : World} {base : Nat} {spare : Nat → Bool} {held : Bool}
theorem opens_nums (fuel : Nat) (v : Value) (x : DataW H × List MemPlace) (h : DataW.trod enc Try.prog w base spare held fuel 23 [v] = some x) : ∃ xs, Scr KN w (· < w.heap.size) xs v :=
  opens_scr Try.underlying23 (by kernel_rfl) (of_decide_eq_true (by kernel_rfl)) (fun n cs x hl hx => by
    match cs, hl with
    | [u], _ =>
      obtain ⟨n, h1, h2⟩ := open_i Try.underlying3 hx
      exact ⟨n, by rw [h1], h2⟩) fuel v x h
theorem open_cl (n : Nat) (cs : List Value) (x : DataW H × List MemPlace) (hl : cs.length = 3) (hx : DataW.trod enc Try.prog w base spare held n 31 cs = some x) : ∃ a, KC.Q w (· < w.heap.size) a cs := by
  obtain ⟨x0, x1, x2, m, -, -, f0, f1, f2⟩ := t_struct_3 Try.underlying31 hx
  match cs, hl with
  | [c0, c1, c2], _ =>
    simp only [show Try.prog.cellsOf 3 = 1 from by kernel_rfl, List.drop_zero, List.drop_succ_cons, List.take_succ_cons, List.take_zero] at f0 f1 f2
    obtain ⟨n0, rfl, i0⟩ := open_i Try.underlying3 f0
    obtain ⟨n1, rfl, i1⟩ := open_i Try.underlying3 f1
    obtain ⟨n2, rfl, i2⟩ := open_i Try.underlying3 f2
    exact ⟨⟨n0, n1, n2⟩, rfl, ⟨i0, i1, i2⟩⟩
theorem opens_calls (fuel : Nat) (v : Value) (x : DataW H × List MemPlace) (h : DataW.trod enc Try.prog w base spare held fuel 22 [v] = some x) : ∃ xs, Scr KC w (· < w.heap.size) xs v :=
  opens_scr Try.underlying22 (by kernel_rfl) (of_decide_eq_true (by kernel_rfl)) open_cl fuel v x h
theorem Scr.lie {w : World} {xs : List Int} {v : Value} (h : Scr KN w (· < w.heap.size) xs v) : LieN w v xs := by
  obtain ⟨A, c, rfl, h1, h2⟩ := h.form
  refine ⟨A, c, rfl, h1, h2, fun k hk => ?_⟩
  obtain ⟨b, off, e, -, hc, -⟩ := h.num k hk
  exact ⟨b, off, e, hc⟩
end

end Go.Proofs.Ytpdihmlilbccjaa
