/- Code as plain data, and as it lies in memory. -/
import Derived.Test.YtadkimnpeachpaaGreatDoorMda
set_option linter.unusedVariables false
namespace Go.Proofs.YtadkimnpeachpaaGreatDoor
open Go.RowKit

/-- numbers -/
def KI : Kd Int where
  sz := 1
  pos := by decide
  Q := fun _ _ n cs => cs = [.int .i64 n] ∧ In64 n
  keep := fun h _ _ => h
  len := fun h => by rw [h.1]; rfl
  one := fun h u hu => by rw [h.1] at hu; simp at hu; subst hu; rfl
/-- texts -/
def KT : Kd (List UInt8) where
  sz := 1
  pos := by decide
  Q := fun _ _ t cs => cs = [.string (bs t)] ∧ t.length ≤ 140737488355328
  keep := fun h _ _ => h
  len := fun h => by rw [h.1]; rfl
  one := fun h u hu => by rw [h.1] at hu; simp at hu; subst hu; rfl
/-- a name with a size -/
structure Sz where
  name : List UInt8
  size : Int
deriving DecidableEq
def KS : Kd Sz where
  sz := 2
  pos := by decide
  Q := fun _ _ s cs => cs = [.string (bs s.name), .int .i64 s.size] ∧ s.name.length ≤ 140737488355328 ∧ In64 s.size
  keep := fun h _ _ => h
  len := fun h => by rw [h.1]; rfl
  one := fun h u hu => by rw [h.1] at hu; simp at hu; rcases hu with rfl | rfl <;> rfl
/-- an operation -/
structure Opx where
  kind : Int
  a : Int
  b : Int
  c : Int
  d : Int
  e : Int
  f : Int
  k : Int
  args : List Int
  next : Int
  els : Int
  pl : Int
deriving DecidableEq
def opRow (o : Opx) (v : Value) : List Value := [.int .i64 o.kind, .int .i64 o.a, .int .i64 o.b, .int .i64 o.c, .int .i64 o.d, .int .i64 o.e, .int .i64 o.f, .int .i64 o.k, v, .int .i64 o.next, .int .i64 o.els, .int .i64 o.pl]
structure Opx.In (o : Opx) : Prop where
  kind : In64 o.kind
  a : In64 o.a
  b : In64 o.b
  c : In64 o.c
  d : In64 o.d
  e : In64 o.e
  f : In64 o.f
  k : In64 o.k
  next : In64 o.next
  els : In64 o.els
  pl : In64 o.pl
def KO : Kd Opx where
  sz := 12
  pos := by decide
  Q := fun w S o cs => ∃ v, cs = opRow o v ∧ Lies KI w S o.args v ∧ o.In
  keep := fun h hw hS => by obtain ⟨v, h1, h2, h3⟩ := h; exact ⟨v, h1, h2.keep hw hS, h3⟩
  len := fun h => by obtain ⟨v, h1, h2, h3⟩ := h; rw [h1]; rfl
  one := fun h u hu => by
    obtain ⟨v, h1, h2, h3⟩ := h
    rw [h1] at hu; simp [opRow] at hu
    rcases hu with rfl | rfl | rfl | rfl | rfl | rfl | rfl | rfl | rfl | rfl | rfl | rfl
    all_goals first | rfl | exact h2.one
/-- a function -/
structure Fn where
  name : List UInt8
  params : Int
  regs : Int
  result : Int
  code : List Opx
deriving DecidableEq
def fnRow (f : Fn) (v : Value) : List Value := [.string (bs f.name), .int .i64 f.params, .int .i64 f.regs, .int .i64 f.result, v]
structure Fn.In (f : Fn) : Prop where
  name : f.name.length ≤ 140737488355328
  params : In64 f.params
  regs : In64 f.regs
  result : In64 f.result
def KF : Kd Fn where
  sz := 5
  pos := by decide
  Q := fun w S f cs => ∃ v, cs = fnRow f v ∧ Lies KO w S f.code v ∧ f.In
  keep := fun h hw hS => by obtain ⟨v, h1, h2, h3⟩ := h; exact ⟨v, h1, h2.keep hw hS, h3⟩
  len := fun h => by obtain ⟨v, h1, h2, h3⟩ := h; rw [h1]; rfl
  one := fun h u hu => by
    obtain ⟨v, h1, h2, h3⟩ := h
    rw [h1] at hu; simp [fnRow] at hu
    rcases hu with rfl | rfl | rfl | rfl | rfl
    all_goals first | rfl | exact h2.one
/-- a program's code -/
structure Mo where
  globals : List Sz
  structs : List Sz
  chans : List Sz
  locks : List (List UInt8)
  inputs : List (List UInt8)
  sinks : List (List UInt8)
  hatches : List (List UInt8)
  funcs : List Fn
  threads : List Int
deriving DecidableEq
/-- the nine slices of a program's code -/
structure Vm where
  g : Value
  s : Value
  c : Value
  l : Value
  i : Value
  o : Value
  h : Value
  f : Value
  t : Value
def Vm.arr (v : Vm) : Array Value := #[v.g, v.s, v.c, v.l, v.i, v.o, v.h, v.f, v.t]
structure IsMo (w : World) (S : Nat → Prop) (m : Mo) (v : Vm) : Prop where
  g : Lies KS w S m.globals v.g
  s : Lies KS w S m.structs v.s
  c : Lies KS w S m.chans v.c
  l : Lies KT w S m.locks v.l
  i : Lies KT w S m.inputs v.i
  o : Lies KT w S m.sinks v.o
  h : Lies KT w S m.hatches v.h
  f : Lies KF w S m.funcs v.f
  t : Lies KI w S m.threads v.t
theorem IsMo.keep {w w' : World} {S S' : Nat → Prop} {m : Mo} {v : Vm} (h : IsMo w S m v) (hw : ∀ b, S b → w'.heap[b]? = w.heap[b]?) (hS : ∀ b, S b → S' b) : IsMo w' S' m v :=
  ⟨h.g.keep hw hS, h.s.keep hw hS, h.c.keep hw hS, h.l.keep hw hS, h.i.keep hw hS, h.o.keep hw hS, h.h.keep hw hS, h.f.keep hw hS, h.t.keep hw hS⟩
theorem IsMo.below {w w' : World} {B : Nat} {m : Mo} {v : Vm} (h : IsMo w (· < B) m v) (hb : Below B w w') : IsMo w' (· < B) m v := h.keep (fun b hb2 => hb.block b hb2) (fun _ h => h)

section
variable {w : World} {S : Nat → Prop} {A : Option Addr} {n c : Nat}
/-- a number of a list, where it lies -/
theorem Lies.int {xs : List Int} (h : Lies KI w S xs (.slice A n c)) (k : Nat) (hk : k < xs.length) : ∃ b off, A = some ⟨b, off, none⟩ ∧ S b ∧ w.cell? ⟨b, off + k, none⟩ = some (.int .i64 xs[k]) ∧ In64 xs[k] := by
  obtain ⟨b, off, row, e, hb, ⟨hr, hi⟩, hc⟩ := h.get k hk
  have h0 := hc 0 (by decide)
  rw [hr] at h0
  exact ⟨b, off, e, hb, by simpa [KI] using h0, hi⟩
theorem Lies.text {xs : List (List UInt8)} (h : Lies KT w S xs (.slice A n c)) (k : Nat) (hk : k < xs.length) : ∃ b off, A = some ⟨b, off, none⟩ ∧ S b ∧ w.cell? ⟨b, off + k, none⟩ = some (.string (bs xs[k])) ∧ xs[k].length ≤ 140737488355328 := by
  obtain ⟨b, off, row, e, hb, ⟨hr, hi⟩, hc⟩ := h.get k hk
  have h0 := hc 0 (by decide)
  rw [hr] at h0
  exact ⟨b, off, e, hb, by simpa [KT] using h0, hi⟩
theorem Lies.sized {xs : List Sz} (h : Lies KS w S xs (.slice A n c)) (k : Nat) (hk : k < xs.length) : ∃ b off, A = some ⟨b, off, none⟩ ∧ S b ∧ w.cell? ⟨b, off + k * 2, none⟩ = some (.string (bs xs[k].name)) ∧ w.cell? ⟨b, off + k * 2 + 1, none⟩ = some (.int .i64 xs[k].size) ∧
    xs[k].name.length ≤ 140737488355328 ∧ In64 xs[k].size := by
  obtain ⟨b, off, row, e, hb, ⟨hr, hi, hj⟩, hc⟩ := h.get k hk
  have h0 := hc 0 (by decide)
  have h1 := hc 1 (by decide)
  rw [hr] at h0 h1
  exact ⟨b, off, e, hb, h0, h1, hi, hj⟩
/-- the cells of an operation at a place -/
structure OpAt (w : World) (b p : Nat) (o : Opx) (v : Value) : Prop where
  c0 : w.cell? ⟨b, p, none⟩ = some (.int .i64 o.kind)
  c1 : w.cell? ⟨b, p + 1, none⟩ = some (.int .i64 o.a)
  c2 : w.cell? ⟨b, p + 2, none⟩ = some (.int .i64 o.b)
  c3 : w.cell? ⟨b, p + 3, none⟩ = some (.int .i64 o.c)
  c4 : w.cell? ⟨b, p + 4, none⟩ = some (.int .i64 o.d)
  c5 : w.cell? ⟨b, p + 5, none⟩ = some (.int .i64 o.e)
  c6 : w.cell? ⟨b, p + 6, none⟩ = some (.int .i64 o.f)
  c7 : w.cell? ⟨b, p + 7, none⟩ = some (.int .i64 o.k)
  c8 : w.cell? ⟨b, p + 8, none⟩ = some v
  c9 : w.cell? ⟨b, p + 9, none⟩ = some (.int .i64 o.next)
  c10 : w.cell? ⟨b, p + 10, none⟩ = some (.int .i64 o.els)
  c11 : w.cell? ⟨b, p + 11, none⟩ = some (.int .i64 o.pl)
theorem Lies.op {xs : List Opx} (h : Lies KO w S xs (.slice A n c)) (k : Nat) (hk : k < xs.length) : ∃ b off v, A = some ⟨b, off, none⟩ ∧ S b ∧ OpAt w b (off + k * 12) xs[k] v ∧ Lies KI w S xs[k].args v ∧ xs[k].In := by
  obtain ⟨b, off, row, e, hb, ⟨v, hr, hi, hj⟩, hc⟩ := h.get k hk
  have hh : ∀ j, j < 12 → w.cell? ⟨b, off + k * 12 + j, none⟩ = (opRow xs[k] v)[j]? := fun j hj => by rw [← hr]; exact hc j hj
  exact ⟨b, off, v, e, hb, ⟨hh 0 (by decide), hh 1 (by decide), hh 2 (by decide), hh 3 (by decide), hh 4 (by decide), hh 5 (by decide), hh 6 (by decide), hh 7 (by decide), hh 8 (by decide), hh 9 (by decide), hh 10 (by decide), hh 11 (by decide)⟩, hi, hj⟩
/-- the cells of a function at a place -/
structure FnAt (w : World) (b p : Nat) (f : Fn) (v : Value) : Prop where
  c0 : w.cell? ⟨b, p, none⟩ = some (.string (bs f.name))
  c1 : w.cell? ⟨b, p + 1, none⟩ = some (.int .i64 f.params)
  c2 : w.cell? ⟨b, p + 2, none⟩ = some (.int .i64 f.regs)
  c3 : w.cell? ⟨b, p + 3, none⟩ = some (.int .i64 f.result)
  c4 : w.cell? ⟨b, p + 4, none⟩ = some v
theorem Lies.fn {xs : List Fn} (h : Lies KF w S xs (.slice A n c)) (k : Nat) (hk : k < xs.length) : ∃ b off v, A = some ⟨b, off, none⟩ ∧ S b ∧ FnAt w b (off + k * 5) xs[k] v ∧ Lies KO w S xs[k].code v ∧ xs[k].In := by
  obtain ⟨b, off, row, e, hb, ⟨v, hr, hi, hj⟩, hc⟩ := h.get k hk
  have hh : ∀ j, j < 5 → w.cell? ⟨b, off + k * 5 + j, none⟩ = (fnRow xs[k] v)[j]? := fun j hj => by rw [← hr]; exact hc j hj
  exact ⟨b, off, v, e, hb, ⟨hh 0 (by decide), hh 1 (by decide), hh 2 (by decide), hh 3 (by decide), hh 4 (by decide)⟩, hi, hj⟩
end

end Go.Proofs.YtadkimnpeachpaaGreatDoor
