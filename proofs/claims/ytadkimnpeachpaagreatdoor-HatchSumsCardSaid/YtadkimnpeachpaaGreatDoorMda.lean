/- Lists in memory, whatever their elements are: what an argument holds, and what a call has made itself. -/
import Derived.Test.YtadkimnpeachpaaGreatDoorRows
import Derived.WalkKit
import Derived.WalkSpells
import Derived.WalkLawsBesides
import Derived.Lib.Hide
import Derived.Lib.Strings
import Derived.IntWalk
import Derived.Deep.AppendLies
import Derived.Maps.AppendAt
import Derived.ChangeArms
import Derived.SizedLaws
set_option linter.unusedVariables false
namespace Go.Proofs.YtadkimnpeachpaaGreatDoor
open Go.RowKit

/-- a text as a string of the program -/
def bs (t : List UInt8) : ByteArray := ⟨t.toArray⟩
theorem bs_toList (t : List UInt8) : (bs t).toList = t := Lib.toList_data _
theorem bs_data (t : List UInt8) : (bs t).data.toList = t := rfl
theorem bs_size (t : List UInt8) : (bs t).size = t.length := rfl
theorem bs_back (s : ByteArray) : bs s.data.toList = s := by cases s; simp [bs]
/-- a number of the machine -/
def In64 (n : Int) : Prop := -9223372036854775808 ≤ n ∧ n ≤ 9223372036854775807
theorem add_none (b o j : Nat) : (⟨b, o, none⟩ : Addr).add j = ⟨b, o + j, none⟩ := by unfold Addr.add; split <;> simp_all
theorem heap_lt {w : World} {g : Nat} {o : Obj} (h : w.heap[g]? = some o) : g < w.heap.size := by
  rcases Nat.lt_or_ge g w.heap.size with h1 | h1
  · exact h1
  · rw [Array.getElem?_eq_none h1] at h; cases h

theorem rint {k} {a b : Int} (h : a = b) : Ending.returned (.int k a) = .returned (.int k b) := by rw [h]
theorem rbool {a b : Bool} (h : a = b) : Ending.returned (.bool a) = .returned (.bool b) := by rw [h]

/-- a kind of element: so many cells, and what they say, over the blocks S -/
structure Kd (α : Type) where
  sz : Nat
  pos : 0 < sz
  Q : World → (Nat → Prop) → α → List Value → Prop
  keep : ∀ {w w' : World} {S S' : Nat → Prop} {a : α} {cs : List Value}, Q w S a cs → (∀ b, S b → w'.heap[b]? = w.heap[b]?) → (∀ b, S b → S' b) → Q w' S' a cs
  len : ∀ {w : World} {S : Nat → Prop} {a : α} {cs : List Value}, Q w S a cs → cs.length = sz
  one : ∀ {w : World} {S : Nat → Prop} {a : α} {cs : List Value}, Q w S a cs → ∀ u ∈ cs, u.oneCell' = true

section
variable {α : Type} {E : Kd α}
/-- the list xs lies at the slice v, in blocks of S -/
def Lies (E : Kd α) (w : World) (S : Nat → Prop) (xs : List α) (v : Value) : Prop :=
  ∃ (A : Option Addr) (c : Nat) (row : Nat → List Value), v = .slice A xs.length c ∧ xs.length ≤ c ∧ c ≤ 9223372036854775807 ∧ xs.length ≤ 140737488355328 ∧
    ∀ (k : Nat) (hk : k < xs.length), ∃ b off, A = some ⟨b, off, none⟩ ∧ S b ∧ E.Q w S xs[k] (row k) ∧ ∀ j, j < E.sz → w.cell? ⟨b, off + k * E.sz + j, none⟩ = (row k)[j]?
theorem Lies.keep {w w' : World} {S S' : Nat → Prop} {xs : List α} {v : Value} (h : Lies E w S xs v) (hw : ∀ b, S b → w'.heap[b]? = w.heap[b]?) (hS : ∀ b, S b → S' b) : Lies E w' S' xs v := by
  obtain ⟨A, c, row, rfl, h1, h2, h3, hA⟩ := h
  refine ⟨A, c, row, rfl, h1, h2, h3, fun k hk => ?_⟩
  obtain ⟨b, off, e, hb, hq, hc⟩ := hA k hk
  exact ⟨b, off, e, hS b hb, E.keep hq hw hS, fun j hj => (World.cell?_of_block (hw b hb)).trans (hc j hj)⟩
theorem Lies.nil (w : World) (S : Nat → Prop) : Lies E w S [] (.slice none 0 0) := ⟨none, 0, fun _ => [], rfl, Nat.le_refl _, by omega, by simp, fun k hk => absurd hk (by simp)⟩
theorem Lies.one {w : World} {S : Nat → Prop} {xs : List α} {v : Value} (h : Lies E w S xs v) : v.oneCell' = true := by
  obtain ⟨A, c, row, rfl, _⟩ := h; rfl
theorem Lies.below {w w' : World} {B : Nat} {xs : List α} {v : Value} (h : Lies E w (· < B) xs v) (hb : Below B w w') : Lies E w' (· < B) xs v := h.keep (fun b hb2 => hb.block b hb2) (fun _ h => h)
theorem Lies.form {w : World} {S : Nat → Prop} {xs : List α} {v : Value} (h : Lies E w S xs v) : ∃ A c, v = .slice A xs.length c ∧ xs.length ≤ c ∧ xs.length ≤ 140737488355328 := by
  obtain ⟨A, c, row, rfl, h1, h2, h3, hA⟩ := h; exact ⟨A, c, rfl, h1, h3⟩
/-- the k-th element -/
theorem Lies.get {w : World} {S : Nat → Prop} {xs : List α} {A : Option Addr} {n c : Nat} (h : Lies E w S xs (.slice A n c)) (k : Nat) (hk : k < xs.length) :
    ∃ b off row, A = some ⟨b, off, none⟩ ∧ S b ∧ E.Q w S xs[k] row ∧ ∀ j, j < E.sz → w.cell? ⟨b, off + k * E.sz + j, none⟩ = row[j]? := by
  obtain ⟨A', c', row, e, h1, h2, h3, hA⟩ := h
  cases e
  obtain ⟨b, off, e, hb, hq, hc⟩ := hA k hk
  exact ⟨b, off, row k, e, hb, hq, hc⟩

theorem flat_len : ∀ {rows : List (List Value)} {sz : Nat}, (∀ r ∈ rows, r.length = sz) → rows.flatten.length = rows.length * sz
  | [], sz, _ => by simp
  | r :: rs, sz, h => by
    rw [List.flatten_cons, List.length_append, h r (by simp), flat_len (fun r hr => h r (by simp [hr])), List.length_cons, Nat.add_mul]; omega
theorem flat_get : ∀ {rows : List (List Value)} {sz : Nat}, (∀ r ∈ rows, r.length = sz) → ∀ (k : Nat) (hk : k < rows.length) (j : Nat), j < sz → rows.flatten[k * sz + j]? = rows[k][j]?
  | r :: rs, sz, h, 0, hk, j, hj => by
    rw [List.flatten_cons, Nat.zero_mul, Nat.zero_add, List.getElem?_append_left (by rw [h r (by simp)]; exact hj)]; rfl
  | r :: rs, sz, h, k + 1, hk, j, hj => by
    have hr := h r (by simp)
    rw [List.flatten_cons, show (k + 1) * sz + j = sz + (k * sz + j) from by rw [Nat.add_mul]; omega, List.getElem?_append_right (by omega), show sz + (k * sz + j) - r.length = k * sz + j from by omega]
    exact flat_get (fun r hr => h r (by simp [hr])) k (by simpa using hk) j hj

/-- the list xs lies at the slice v in memory of the call's own, from base on; e: the elements' type -/
def OwnL (E : Kd α) (e : TypeId) (w : World) (base : Nat) (xs : List α) (v : Value) : Prop :=
  ∃ rows : List (List Value), rows.length = xs.length ∧ xs.length ≤ 140737488355328 ∧ w.ownsRow base e E.sz v xs.length rows.flatten ∧
    ∀ (k : Nat) (hk : k < xs.length) (hk' : k < rows.length), E.Q w (fun b => base ≤ b ∧ b < w.heap.size ∧ v.ownBlock ≠ some b) xs[k] rows[k]
theorem OwnL.lens {e : TypeId} {w : World} {base : Nat} {S : Nat → Prop} {xs : List α} {rows : List (List Value)} (hl : rows.length = xs.length) (hq : ∀ (k : Nat) (hk : k < xs.length) (hk' : k < rows.length), E.Q w S xs[k] rows[k]) : ∀ r ∈ rows, r.length = E.sz := by
  intro r hr
  obtain ⟨k, hk, rfl⟩ := List.getElem_of_mem hr
  exact E.len (hq k (by omega) hk)
theorem OwnL.lies {e : TypeId} {w : World} {base : Nat} {xs : List α} {v : Value} (h : OwnL E e w base xs v) : Lies E w (fun b => base ≤ b ∧ b < w.heap.size) xs v := by
  obtain ⟨rows, hl, hM, hown, hq⟩ := h
  have hlen := OwnL.lens (e := e) (base := base) hl hq
  have hlt := hown.lt
  rcases hown.2 with ⟨rfl, h2⟩ | ⟨g, cap, cur, rfl, hbg, hg, hc1, hc2, _⟩
  · have : xs = [] := List.eq_nil_of_length_eq_zero h2
    subst this
    exact Lies.nil _ _
  · refine ⟨_, cap, fun k => rows[k]?.getD [], rfl, hc1, by unfold maxLen at hc2; omega, hM, fun k hk => ?_⟩
    have hk' : k < rows.length := by omega
    refine ⟨g, 0, rfl, ⟨hbg, (hlt g rfl).2⟩, ?_, fun j hj => ?_⟩
    · dsimp only
      rw [List.getElem?_eq_getElem hk']
      exact E.keep (hq k hk hk') (fun _ _ => rfl) (fun b hb => ⟨hb.1, hb.2.1⟩)
    · dsimp only
      have hz : j < rows[k].length := by rw [hlen _ (List.getElem_mem hk')]; exact hj
      have h1 := flat_get hlen k hk' j hj
      rw [List.getElem?_eq_getElem hz] at h1
      have := hown.cells (g := g) rfl (k * E.sz + j) _ h1
      rw [add_none] at this
      rw [List.getElem?_eq_getElem hk', Option.getD_some, List.getElem?_eq_getElem hz, show 0 + k * E.sz + j = 0 + (k * E.sz + j) from by omega]
      exact this
theorem OwnL.lt {e : TypeId} {w : World} {base : Nat} {xs : List α} {v : Value} (h : OwnL E e w base xs v) {b : Nat} (hb : v.ownBlock = some b) : base ≤ b ∧ b < w.heap.size := by
  obtain ⟨rows, hl, hM, hown, hq⟩ := h
  exact hown.lt b hb
/-- what stays as it was in all blocks of the list -/
theorem OwnL.keep {e : TypeId} {w w' : World} {base : Nat} {xs : List α} {v : Value} (h : OwnL E e w base xs v) (hs : w.heap.size ≤ w'.heap.size) (hw : ∀ b, base ≤ b → b < w.heap.size → w'.heap[b]? = w.heap[b]?) : OwnL E e w' base xs v := by
  obtain ⟨rows, hl, hM, hown, hq⟩ := h
  refine ⟨rows, hl, hM, ?_, fun k hk hk' => E.keep (hq k hk hk') (fun b hb => hw b hb.1 hb.2.1) (fun b hb => ⟨hb.1, Nat.lt_of_lt_of_le hb.2.1 hs, hb.2.2⟩)⟩
  refine ⟨hown.1, ?_⟩
  rcases hown.2 with h2 | ⟨g, cap, cur, hv, hbg, hg, h3⟩
  · exact .inl h2
  · exact .inr ⟨g, cap, cur, hv, hbg, (hw g hbg (heap_lt hg)).trans hg, h3⟩
theorem OwnL.below {e : TypeId} {w w' : World} {base : Nat} {xs : List α} {v : Value} (h : OwnL E e w base xs v) (hb : Below w.heap.size w w') : OwnL E e w' base xs v := h.keep hb.size (fun b _ hb2 => hb.block b hb2)
theorem OwnL.nil (e : TypeId) (w : World) (base : Nat) : OwnL E e w base [] (.slice none 0 0) := ⟨[], rfl, by simp, World.ownsRow_nil _ _ _ _, fun k hk => absurd hk (by simp)⟩
theorem OwnL.lit (e : TypeId) (w : World) : OwnL E e (w.alloc (.cells #[] e)) w.heap.size [] (.slice (some ⟨w.heap.size, 0, none⟩) 0 0) :=
  ⟨[], rfl, by simp, World.ownsRow_lit (e := e) (size := E.sz) w #[] 0 (Nat.le_refl _) (by unfold maxLen; omega) (by simp), fun k hk => absurd hk (by simp)⟩
theorem OwnL.set {e : TypeId} {w : World} {base : Nat} {xs : List α} {v : Value} (h : OwnL E e w base xs v) {p : Addr} (hp : p.block < base) (u : Value) : OwnL E e (w.setCell p u) base xs v :=
  h.keep (by simp) (fun b hb _ => Below.heap_setCell w p u b (by omega))

/-- what an append of one element makes of the list -/
theorem OwnL.pushed {e : TypeId} {w w' : World} {base : Nat} {xs : List α} {v : Value} {a : α} {r : List Value} {g cap : Nat} {rows : List (List Value)} (hl : rows.length = xs.length) (hown : w.ownsRow base e E.sz v xs.length rows.flatten)
    (hq : ∀ (k : Nat) (hk : k < xs.length) (hk' : k < rows.length), E.Q w (fun b => base ≤ b ∧ b < w.heap.size ∧ v.ownBlock ≠ some b) xs[k] rows[k])
    (hr : E.Q w (fun b => base ≤ b ∧ b < w.heap.size ∧ v.ownBlock ≠ some b) a r) (hb : xs.length ≤ 1000000)
    (h1 : w'.ownsRow base e E.sz (.slice (some ⟨g, 0, none⟩) (xs.length + 1) cap) (xs.length + 1) (rows.flatten ++ r)) (h2 : w.grownBy w' v.ownBlock) (h3 : v.ownBlock = some g ∨ g = w.heap.size) :
    OwnL E e w' base (xs ++ [a]) (.slice (some ⟨g, 0, none⟩) (xs.length + 1) cap) ∧ Below base w w' := by
  have hk2 : ∀ {x : α} {cs : List Value}, E.Q w (fun b => base ≤ b ∧ b < w.heap.size ∧ v.ownBlock ≠ some b) x cs → E.Q w' (fun b => base ≤ b ∧ b < w'.heap.size ∧ (Value.slice (some ⟨g, 0, none⟩) (xs.length + 1) cap).ownBlock ≠ some b) x cs := fun h =>
    E.keep h (fun b hb => h2.block b hb.2.1 (fun e => hb.2.2 e.symm)) (fun b hb => ⟨hb.1, Nat.lt_of_lt_of_le hb.2.1 h2.size, fun e => by
      have e : g = b := by simpa [Value.ownBlock] using e
      rcases h3 with h3 | h3
      · exact hb.2.2 (by rw [h3, e])
      · have := hb.2.1; omega⟩)
  refine ⟨⟨rows ++ [r], by simp [hl], by simp; omega, ?_, fun k hk hk' => ?_⟩, ?_⟩
  · rw [List.length_append, List.flatten_append]
    simpa using h1
  · by_cases hlt : k < xs.length
    · rw [List.getElem_append_left hlt, List.getElem_append_left (by omega)]
      exact hk2 (hq k hlt (by omega))
    · have e1 : k = xs.length := by simp at hk; omega
      subst e1
      have e2 : (xs ++ [a])[xs.length] = a := by simp
      have e3 : (rows ++ [r])[xs.length] = r := by simp [← hl]
      rw [e2, e3]
      exact hk2 hr
  · refine ⟨h2.os, h2.tape, h2.output, h2.size, fun b hb => h2.block b (by
      rcases h3 with h3 | h3
      · exact Nat.lt_of_lt_of_le hb (Nat.le_trans (hown.lt g h3).1 (Nat.le_of_lt (hown.lt g h3).2))
      · rcases hown.2 with ⟨rfl, _⟩ | ⟨g', cap', cur', rfl, hbg, hg', _⟩
        · exact Nat.lt_of_lt_of_le hb (by
            have := (h1.lt g rfl).1
            omega)
        · have := heap_lt hg'; omega) (fun e => ?_)⟩
    have := hown.lt b e.symm
    omega

/-- append of one element that lies at an address -/
theorem wpList_append_one {P : Program} {w : World} {ops : Array Oper} {rest : List Oper} {o : Oper} {act : Act} {Q : Exit → Act → World → Prop} (hgd : o.guard = none) (s x : Operand) (t e : TypeId)
    (ho : o.op = .call { callee := .builtin .append, args := #[s, x], argTypes := #[t, t] }) (ht : P.underlying t = some (.slice e)) (z : Value) (bytes : Nat) (hi : (P.info? e).map (fun i => (i.zero, i.size, i.bytes)) = some (some z, E.sz, bytes)) (hzs : z.cells.size = E.sz) (hby : bytes ≤ 140000000)
    (base : Nat) (xs : List α) (v : Value) (hs : act.eval s = v) (hown : OwnL E e w base xs v) (hn : xs.length ≤ 1000000)
    (ad : Addr) (c : Nat) (a : α) (r : List Value) (hx : act.eval x = .slice (some ad) 1 c) (hc : ∀ j u, r[j]? = some u → w.cell? (ad.add j) = some u)
    (hr : E.Q w (fun b => base ≤ b ∧ b < w.heap.size ∧ v.ownBlock ≠ some b) a r) (hbase : base ≤ w.heap.size)
    (h : ∀ v' w', OwnL E e w' base (xs ++ [a]) v' → Below base w w' → wpList P ops Q rest (act.put o.dst v') w') : wpList P ops Q (o :: rest) act w := by
  obtain ⟨i0, hi0, hz0, hz1, hz2⟩ := info_parts hi
  obtain ⟨rows, hl, hM, hrow, hq⟩ := hown
  have hbb : (xs.length + 1) * bytes ≤ 140737488355328 := by
    have := Nat.mul_le_mul (show xs.length + 1 ≤ 1000001 by omega) hby
    omega
  refine wpList_append_lies w hgd s x t ho base e i0 z E.sz bytes ht hi0 hz0 hz1 hz2 hzs E.pos v xs.length rows.flatten hs hrow ad 1 c r hx (by rw [E.len hr]; omega) hc (E.one hr) (by omega) (by unfold maxLen; omega) hbb hbase w.heap.size rfl fun g cap w' h1 h2 h3 h4 => ?_
  obtain ⟨k1, k2⟩ := OwnL.pushed hl hrow hq hr hn h1 h2 h3
  exact h _ w' k1 k2
theorem step_append_one {P : Program} {w : World} {ops : Array Oper} {o : Oper} {act : Act} {K : Act → World → Prop} {Q : Exit → Act → World → Prop} {EE : Prop} (hgd : o.guard = none) (s x : Operand) (t e : TypeId)
    (ho : o.op = .call { callee := .builtin .append, args := #[s, x], argTypes := #[t, t] }) (ht : P.underlying t = some (.slice e)) (z : Value) (bytes : Nat) (hi : (P.info? e).map (fun i => (i.zero, i.size, i.bytes)) = some (some z, E.sz, bytes)) (hzs : z.cells.size = E.sz) (hby : bytes ≤ 140000000)
    (base : Nat) (xs : List α) (v : Value) (hs : act.eval s = v) (hown : OwnL E e w base xs v) (hn : xs.length ≤ 1000000)
    (ad : Addr) (c : Nat) (a : α) (r : List Value) (hx : act.eval x = .slice (some ad) 1 c) (hc : ∀ j u, r[j]? = some u → w.cell? (ad.add j) = some u)
    (hr : E.Q w (fun b => base ≤ b ∧ b < w.heap.size ∧ v.ownBlock ≠ some b) a r) (hbase : base ≤ w.heap.size)
    (h : ∀ v' w', OwnL E e w' base (xs ++ [a]) v' → Below base w w' → K (act.put o.dst v') w') : if Region.wanted o (yielded ops act.tmps) = true then Oper.wp P o act w K Q else EE := by
  obtain ⟨i0, hi0, hz0, hz1, hz2⟩ := info_parts hi
  obtain ⟨rows, hl, hM, hrow, hq⟩ := hown
  have hbb : (xs.length + 1) * bytes ≤ 140737488355328 := by
    have := Nat.mul_le_mul (show xs.length + 1 ≤ 1000001 by omega) hby
    omega
  refine step_append_lies w hgd s x t ho base e i0 z E.sz bytes ht hi0 hz0 hz1 hz2 hzs E.pos v xs.length rows.flatten hs hrow ad 1 c r hx (by rw [E.len hr]; omega) hc (E.one hr) (by omega) (by unfold maxLen; omega) hbb hbase w.heap.size rfl fun g cap w' h1 h2 h3 h4 => ?_
  obtain ⟨k1, k2⟩ := OwnL.pushed hl hrow hq hr hn h1 h2 h3
  exact h _ w' k1 k2
end

end Go.Proofs.YtadkimnpeachpaaGreatDoor
