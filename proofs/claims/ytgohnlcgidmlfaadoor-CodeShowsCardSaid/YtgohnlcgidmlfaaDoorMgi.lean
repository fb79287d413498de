/- Bytes of a call's own: an append of a whole text. -/
import Derived.Test.YtgohnlcgidmlfaaDoorMgg
import Derived.Lib.SmallJoins
import Derived.Deep.AppendSrc
set_option linter.unusedVariables false
set_option linter.unusedSimpArgs false
namespace Go.Proofs.YtgohnlcgidmlfaaDoor
open Go.RowKit

def bv (l : List UInt8) : List Value := l.map fun b => .int .u8 (b.toNat : Nat)
/-- the bytes l in memory of the call's own, from base on -/
def BRow (w : World) (base : Nat) (l : List UInt8) (v : Value) : Prop := w.ownsRow base 5 1 v l.length (bv l)
theorem BRow.keep {w w' : World} {base : Nat} {l : List UInt8} {v : Value} (h : BRow w base l v) (hk : ∀ b, base ≤ b → b < w.heap.size → w'.heap[b]? = w.heap[b]?) : BRow w' base l v := by
  refine ⟨h.1, ?_⟩
  rcases h.2 with hn | ⟨g, cap, cur, rfl, hg, hh, rest⟩
  · exact .inl hn
  · exact .inr ⟨g, cap, cur, rfl, hg, (hk g hg (heap_lt hh)).trans hh, rest⟩
theorem BRow.below {w w' : World} {base : Nat} {l : List UInt8} {v : Value} (h : BRow w base l v) (hb : Below w.heap.size w w') : BRow w' base l v := h.keep fun b _ hlt => hb.block b hlt
theorem BRow.form {w : World} {base : Nat} {l : List UInt8} {v : Value} (h : BRow w base l v) : ∃ A c, v = .slice A l.length c := by
  rcases h.2 with ⟨rfl, h2⟩ | ⟨g, cap, cur, rfl, hbg, hg, hc1, hc2, _⟩
  · exact ⟨none, 0, by rw [h2]⟩
  · exact ⟨_, cap, rfl⟩
theorem BRow.lit (w : World) : BRow (w.alloc (.cells #[] 5)) w.heap.size [] (.slice (some ⟨w.heap.size, 0, none⟩) 0 0) :=
  World.ownsRow_lit (e := 5) (size := 1) w #[] 0 (Nat.le_refl _) (by unfold maxLen; omega) (by simp)
theorem BRow.conv {w : World} {base : Nat} {v : Value} {l : List UInt8} (h : BRow w base l v) (hl : l ≠ []) :
    (convert 60 9 v).run Tryd.prog w = .ok (.string (bs l)) w := by
  have h0 : 0 < l.length := List.length_pos_iff.2 hl
  rcases h.2 with ⟨_, h2⟩ | ⟨g, cap, cur, rfl, hbg, hg, hc1, hc2, _⟩
  · omega
  · exact run_convert_bytes_back w 60 9 5 ⟨g, 0, none⟩ _ l Tryd.underlying60 Tryd.underlying5 Tryd.underlying9 (fun j hj => by
      have := World.ownsRow.cells h (g := g) rfl j (.int .u8 (l[j].toNat : Nat)) (by unfold bv; rw [List.getElem?_map, List.getElem?_eq_getElem hj]; rfl)
      exact this)
/-- the bytes l lie at block g -/
def BAt (w : World) (g : Nat) (l : List UInt8) : Prop := ∀ k (hk : k < l.length), w.cell? ⟨g, k, none⟩ = some (.int .u8 (l[k].toNat : Nat))
theorem BAt.news {w : World} {g : Nat} {l : List UInt8} (h : BAt w g l) : ∀ j u, (bv l)[j]? = some u → w.cell? ((⟨g, 0, none⟩ : Addr).add j) = some u := fun j u hu => by
  rw [add_none, Nat.zero_add]
  unfold bv at hu
  rw [List.getElem?_map] at hu
  cases hj : l[j]? with
  | none => rw [hj] at hu; cases hu
  | some b =>
    rw [hj] at hu
    obtain ⟨hlt, rfl⟩ := List.getElem?_eq_some_iff.1 hj
    rw [h j hlt]
    exact hu
theorem bv_one (l : List UInt8) : ∀ u ∈ bv l, u.oneCell' = true := fun u hu => by
  obtain ⟨b, _, rfl⟩ := List.mem_map.1 hu; rfl
/-- a text as bytes, in a new block -/
theorem wpList_conv {ops : Array Oper} {rest : List Oper} {o : Oper} {a : Act} {w : World} {Q : Exit → Act → World → Prop} (hgd : o.guard = none) (x : Operand) (ho : o.op = .convert 9 60 x) (l : List UInt8) (hx : a.eval x = .string (bs l))
    (h : ∀ w' c, Below w.heap.size w w' → w.heap.size < w'.heap.size → BAt w' w.heap.size l → wpList Tryd.prog ops Q rest (a.put o.dst (.slice (some ⟨w.heap.size, 0, none⟩) l.length c)) w') : wpList Tryd.prog ops Q (o :: rest) a w := by
  refine wpList_plain hgd fun K hK => ?_
  unfold Oper.wp execOp
  rw [ho]
  have hcv := Lib.run_convert_string_bytes (P := Tryd.prog) w 9 60 5 (bs l) Tryd.underlying9 Tryd.underlying60 Tryd.underlying5
  simp only [Sem.run_bind, Sem.run_pure, hx, hcv, Result.andThen_ok]
  refine hK _ _ (h _ _ (Go.Joins.below_bytesWorld _ _ _ _ (Nat.le_refl _)) (by rw [Lib.bytesWorld_size]; omega) (fun k hk => ?_))
  rw [Lib.bytesWorld_cell w _ (bs l) k (by rw [bs_size]; exact hk)]
  rw [List.getD_eq_getElem?_getD, show (bs l).data.toList = l from rfl, List.getElem?_eq_getElem hk]
  rfl
theorem info_byte2 : (Tryd.prog.info? 5).map (fun i => (i.zero, i.size, i.bytes)) = some (some (.int .u8 0), 1, 1) := by kernel_rfl
/-- what stays as it was: the blocks of S -/
structure Kp (S : Nat → Prop) (w w' : World) : Prop where
  os : w'.os = w.os
  tape : w'.tape = w.tape
  output : w'.output = w.output
  size : w.heap.size ≤ w'.heap.size
  keep : ∀ b, S b → b < w.heap.size → w'.heap[b]? = w.heap[b]?
theorem Kp.refl (S : Nat → Prop) (w : World) : Kp S w w := ⟨rfl, rfl, rfl, Nat.le_refl _, fun _ _ _ => rfl⟩
theorem Kp.trans {S : Nat → Prop} {w1 w2 w3 : World} (h : Kp S w1 w2) (k : Kp S w2 w3) : Kp S w1 w3 := ⟨k.os.trans h.os, k.tape.trans h.tape, k.output.trans h.output, Nat.le_trans h.size k.size, fun b hs hb => (k.keep b hs (Nat.lt_of_lt_of_le hb h.size)).trans (h.keep b hs hb)⟩
theorem Kp.of {S : Nat → Prop} {w w' : World} (h : Below w.heap.size w w') : Kp S w w' := ⟨h.os, h.tape, h.output, h.size, fun b _ hb => h.block b hb⟩
theorem Kp.mono {S S' : Nat → Prop} {w w' : World} (h : Kp S w w') (hs : ∀ b, S' b → S b) : Kp S' w w' := ⟨h.os, h.tape, h.output, h.size, fun b hb hl => h.keep b (hs b hb) hl⟩
theorem Kp.cell {S : Nat → Prop} {w w' : World} (h : Kp S w w') {b o : Nat} {u : Value} (hs : S b) (hc : w.cell? ⟨b, o, none⟩ = some u) : w'.cell? ⟨b, o, none⟩ = some u := (World.cell?_of_block (h.keep b hs (cell_in hc).1)).trans hc
theorem Kp.below {B : Nat} {w w' : World} (h : Kp (· < B) w w') (hb : B ≤ w.heap.size) : Below B w w' := ⟨h.os, h.tape, h.output, h.size, fun b hlt => h.keep b hlt (by omega)⟩
/-- the bytes l in memory of the call's own, and not in a block of S -/
def BX (w : World) (S : Nat → Prop) (l : List UInt8) (v : Value) : Prop := BRow w 0 l v ∧ ∀ b, v.ownBlock = some b → ¬ S b
theorem BX.keep {w w' : World} {S : Nat → Prop} {l : List UInt8} {v : Value} (h : BX w S l v) (hb : Below w.heap.size w w') : BX w' S l v := ⟨h.1.below hb, h.2⟩
theorem BX.mono {w : World} {S S' : Nat → Prop} {l : List UInt8} {v : Value} (h : BX w S l v) (hs : ∀ b, S' b → S b) : BX w S' l v := ⟨h.1, fun b hb h2 => h.2 b hb (hs b h2)⟩
theorem BX.more {w w' : World} {S S' : Nat → Prop} {l : List UInt8} {v : Value} (h : BX w S l v) (hb : Below w.heap.size w w') (hs : ∀ b, S' b → S b ∨ w.heap.size ≤ b) : BX w' S' l v := ⟨h.1.below hb, fun b hb h2 => by
  rcases hs b h2 with h3 | h3
  · exact h.2 b hb h3
  · have := (World.ownsRow.lt h.1 b hb).2
    omega⟩
theorem append_bytes_run {w : World} {S : Nat → Prop} (hS : ∀ b, S b → b < w.heap.size) (l l2 : List UInt8) (ty : TypeId) (v : Value) (hown : BX w S l v) (g c : Nat) (hg : BAt w g l2) (hb : l.length + l2.length ≤ 1000000000) :
    ∃ v' w', (Builtin.append_ #[60, 60] ty #[v, .slice (some ⟨g, 0, none⟩) l2.length c]).run Tryd.prog w = .ok v' w' ∧ BX w' S (l ++ l2) v' ∧ Kp S w w' := by
  obtain ⟨i, hi, hz, hs, hy⟩ := info_parts info_byte2
  obtain ⟨v', w', hr, h2, h3, -, h5⟩ := run_append_own_at (P := Tryd.prog) w 0 60 ty 5 i _ 1 1 Tryd.underlying60 hi hz hs hy rfl (by decide) v l.length (bv l) hown.1 ⟨g, 0, none⟩ l2.length c (bv l2) (by simp [bv]) hg.news (bv_one l2) (by unfold maxLen; omega) (by omega) (Nat.zero_le _)
  refine ⟨v', w', hr, ⟨?_, fun b hb hs => ?_⟩, ⟨h3.os, h3.tape, h3.output, h3.size, fun b hs hlt => h3.block b hlt (fun e => hown.2 b e.symm hs)⟩⟩
  · unfold BRow
    rw [List.length_append, show bv (l ++ l2) = bv l ++ bv l2 from List.map_append]
    exact h2
  · rcases h5 with h5 | h5
    · exact hown.2 b (h5 ▸ hb) hs
    · rw [h5] at hb
      cases hb
      have := hS _ hs
      omega
theorem wpList_append_bytes {ops : Array Oper} {rest : List Oper} {o : Oper} {a : Act} {w : World} {Q : Exit → Act → World → Prop} (hgd : o.guard = none) (s x : Operand)
    (ho : o.op = .call { callee := .builtin .append, args := #[s, x], argTypes := #[60, 60] }) {S : Nat → Prop} (hS : ∀ b, S b → b < w.heap.size) (l l2 : List UInt8) (v : Value) (hs : a.eval s = v) (hown : BX w S l v) (g c : Nat) (hx : a.eval x = .slice (some ⟨g, 0, none⟩) l2.length c) (hg : BAt w g l2) (hb : l.length + l2.length ≤ 1000000000)
    (h : ∀ v' w', BX w' S (l ++ l2) v' → Kp S w w' → wpList Tryd.prog ops Q rest (a.put o.dst v') w') : wpList Tryd.prog ops Q (o :: rest) a w := by
  refine wpList_plain hgd fun K hK => ?_
  obtain ⟨v', w', hr, h2, h3⟩ := append_bytes_run hS l l2 o.type v hown g c hg hb
  unfold Oper.wp execOp
  simp only [ho, resolve, invoke, builtin, Sem.run_bind, Sem.run_pure, Result.andThen_ok, List.map_toArray, List.map_cons, List.map_nil, hs, hx, hr]
  exact hK _ _ (h v' w' h2 h3)
theorem step_append_bytes {ops : Array Oper} {o : Oper} {a : Act} {w : World} {K : Act → World → Prop} {Q : Exit → Act → World → Prop} {E : Prop} (hgd : o.guard = none) (s x : Operand)
    (ho : o.op = .call { callee := .builtin .append, args := #[s, x], argTypes := #[60, 60] }) {S : Nat → Prop} (hS : ∀ b, S b → b < w.heap.size) (l l2 : List UInt8) (v : Value) (hs : a.eval s = v) (hown : BX w S l v) (g c : Nat) (hx : a.eval x = .slice (some ⟨g, 0, none⟩) l2.length c) (hg : BAt w g l2) (hb : l.length + l2.length ≤ 1000000000)
    (h : ∀ v' w', BX w' S (l ++ l2) v' → Kp S w w' → K (a.put o.dst v') w') : if Region.wanted o (yielded ops a.tmps) = true then Oper.wp Tryd.prog o a w K Q else E := by
  have hw : Region.wanted o (yielded ops a.tmps) = true := by simp [Region.wanted, hgd]
  rw [if_pos hw]
  obtain ⟨v', w', hr, h2, h3⟩ := append_bytes_run hS l l2 o.type v hown g c hg hb
  unfold Oper.wp execOp
  simp only [ho, resolve, invoke, builtin, Sem.run_bind, Sem.run_pure, Result.andThen_ok, List.map_toArray, List.map_cons, List.map_nil, hs, hx, hr]
  exact h v' w' h2 h3
theorem step_append_bytes_at {ops : Array Oper} {o : Oper} {a : Act} {w : World} {K : Act → World → Prop} {Q : Exit → Act → World → Prop} {E : Prop} (d : Nat) (hd : o.dst = some d) (hgd : o.guard = none) (s x : Operand)
    (ho : o.op = .call { callee := .builtin .append, args := #[s, x], argTypes := #[60, 60] }) {S : Nat → Prop} (hS : ∀ b, S b → b < w.heap.size) (l l2 : List UInt8) (v : Value) (hs : a.eval s = v) (hown : BX w S l v) (g c : Nat) (hx : a.eval x = .slice (some ⟨g, 0, none⟩) l2.length c) (hg : BAt w g l2) (hb : l.length + l2.length ≤ 1000000000)
    (h : ∀ v' w', BX w' S (l ++ l2) v' → Kp S w w' → K ⟨a.tmps.setIfInBounds d v', a.defers⟩ w') : if Region.wanted o (yielded ops a.tmps) = true then Oper.wp Tryd.prog o a w K Q else E :=
  step_append_bytes hgd s x ho hS l l2 v hs hown g c hx hg hb (fun v' w' h1 h2 => by rw [hd]; exact h v' w' h1 h2)
theorem bat_ten (w : World) : BAt (w.alloc (.cells #[.int .u8 10] 5)) w.heap.size [10] := fun k hk => by
  have : k = 0 := by simp at hk; exact hk
  subst this
  rw [cell_of_row _ _ 0 _ _ (0, 0) (heap_alloc_new w _)]
  rfl
/-- numbers of a call's own -/
def iv (xs : List Int) : List Value := xs.map fun x => .int .i64 x
theorem info_int2 : (Tryd.prog.info? 3).map (fun i => (i.zero, i.size, i.bytes)) = some (some (.int .i64 0), 1, 8) := by kernel_rfl
theorem iv_one (xs : List Int) : ∀ u ∈ iv xs, u.oneCell' = true := fun u hu => by
  obtain ⟨b, _, rfl⟩ := List.mem_map.1 hu; rfl
theorem append_ints_run {w : World} {S : Nat → Prop} (base n c0 : Nat) (xs ys : List Int) (ty : TypeId) (hown : w.ownsRow base 3 1 (.slice (some ⟨base, 0, none⟩) n c0) n (iv xs)) (u : Value) (hu : Lies KI w S ys u) (hb : n + ys.length ≤ 1000000) (hbase : base ≤ w.heap.size) (hnc : n ≤ c0) :
    ∃ g c w', (Builtin.append_ #[25, 25] ty #[.slice (some ⟨base, 0, none⟩) n c0, u]).run Tryd.prog w = .ok (.slice (some ⟨g, 0, none⟩) (n + ys.length) c) w' ∧ w'.ownsRow base 3 1 (.slice (some ⟨g, 0, none⟩) (n + ys.length) c) (n + ys.length) (iv (xs ++ ys)) ∧ Below base w w' ∧ base ≤ g ∧ g < w'.heap.size := by
  obtain ⟨i, hi, hz, hs, hy⟩ := info_parts info_int2
  obtain ⟨A, cu, rfl, hcu, hMu⟩ := hu.form
  have hform : ∀ {v' : Value} {w' : World} {m : Nat}, w'.ownsRow base 3 1 v' m (iv (xs ++ ys)) → v' ≠ .slice none 0 0 → ∃ g c, v' = .slice (some ⟨g, 0, none⟩) m c ∧ base ≤ g ∧ g < w'.heap.size := fun {v' w' m} h hne => by
    rcases h.2 with ⟨rfl, _⟩ | ⟨g, cap, cur, rfl, hbg, hg, _⟩
    · exact absurd rfl hne
    · exact ⟨g, cap, rfl, hbg, heap_lt hg⟩
  cases A with
  | none =>
    have hys : ys = [] := by
      cases ys with
      | nil => rfl
      | cons y ys =>
        obtain ⟨A', c', row, e, h1, h2, h3, hA⟩ := hu
        obtain ⟨b, off, e2, _⟩ := hA 0 (by simp)
        cases e
        cases e2
    subst hys
    have hr := run_append_room_src (P := Tryd.prog) w 25 25 ty 3 i Tryd.underlying25 hi base 0 n c0 (.slice none 0 cu) 0 [] (Src.ofNil w Tryd.underlying25 cu) (by omega) (fun j hj => absurd hj (by simp)) (fun j hj => absurd hj (by simp))
    obtain ⟨g, c, e1, e2, e3⟩ := hform (w' := w) (m := n) (v' := .slice (some ⟨base, 0, none⟩) n c0) (by simpa using hown) (by simp)
    cases e1
    exact ⟨base, c0, w, by simpa [World.setCells] using hr, by simpa using hown, Below.refl _ _, e2, e3⟩
  | some ad =>
    obtain ⟨v', w', hr, h2, h3, h4, -⟩ := run_append_own_at (P := Tryd.prog) w base 25 ty 3 i _ 1 8 Tryd.underlying25 hi hz hs hy rfl (by decide) (.slice (some ⟨base, 0, none⟩) n c0) n (iv xs) hown ad ys.length cu (iv ys) (by simp [iv]) (fun j x hx => by
      unfold iv at hx
      rw [List.getElem?_map] at hx
      cases hj : ys[j]? with
      | none => rw [hj] at hx; cases hx
      | some y =>
        rw [hj] at hx
        obtain ⟨hlt, rfl⟩ := List.getElem?_eq_some_iff.1 hj
        obtain ⟨b, off, e, _, hc, _⟩ := hu.int j hlt
        cases e
        rw [add_none, hc]
        exact hx) (iv_one ys) (by unfold maxLen; omega) (by omega) hbase
    have h2' : w'.ownsRow base 3 1 v' (n + ys.length) (iv (xs ++ ys)) := by rw [show iv (xs ++ ys) = iv xs ++ iv ys from List.map_append]; exact h2
    obtain ⟨g, c, rfl, e2, e3⟩ := hform h2' (fun e => by have := (h4.1 e).1; cases this)
    exact ⟨g, c, w', hr, h2', ⟨h3.os, h3.tape, h3.output, h3.size, fun b hlt => h3.block b (by omega) (fun e => by
      have : base = b := by simpa [Value.ownBlock] using e.symm
      omega)⟩, e2, e3⟩
theorem wpList_append_ints {ops : Array Oper} {rest : List Oper} {o : Oper} {a : Act} {w : World} {Q : Exit → Act → World → Prop} (hgd : o.guard = none) (s x : Operand)
    (ho : o.op = .call { callee := .builtin .append, args := #[s, x], argTypes := #[25, 25] }) {S : Nat → Prop} (base n c0 : Nat) (xs ys : List Int) (hs : a.eval s = .slice (some ⟨base, 0, none⟩) n c0) (hown : w.ownsRow base 3 1 (.slice (some ⟨base, 0, none⟩) n c0) n (iv xs)) (u : Value) (hx : a.eval x = u) (hu : Lies KI w S ys u) (hb : n + ys.length ≤ 1000000) (hbase : base ≤ w.heap.size) (hnc : n ≤ c0)
    (h : ∀ g c w', w'.ownsRow base 3 1 (.slice (some ⟨g, 0, none⟩) (n + ys.length) c) (n + ys.length) (iv (xs ++ ys)) → Below base w w' → base ≤ g → g < w'.heap.size → wpList Tryd.prog ops Q rest (a.put o.dst (.slice (some ⟨g, 0, none⟩) (n + ys.length) c)) w') : wpList Tryd.prog ops Q (o :: rest) a w := by
  refine wpList_plain hgd fun K hK => ?_
  obtain ⟨g, c, w', hr, h2, h3, h4, h5⟩ := append_ints_run base n c0 xs ys o.type hown u hu hb hbase hnc
  unfold Oper.wp execOp
  simp only [ho, resolve, invoke, builtin, Sem.run_bind, Sem.run_pure, Result.andThen_ok, List.map_toArray, List.map_cons, List.map_nil, hs, hx, hr]
  exact hK _ _ (h g c w' h2 h3 h4 h5)
theorem conv_at (w : World) (l : List UInt8) : BAt (Lib.bytesWorld w 5 (bs l)) w.heap.size l := fun k hk => by
  rw [Lib.bytesWorld_cell w _ (bs l) k (by rw [bs_size]; exact hk)]
  rw [List.getD_eq_getElem?_getD, show (bs l).data.toList = l from rfl, List.getElem?_eq_getElem hk]
  rfl
theorem conv_run (w : World) (l : List UInt8) : (convert 9 60 (.string (bs l))).run Tryd.prog w = .ok (.slice (some ⟨w.heap.size, 0, none⟩) l.length (grownCap w l.length 0 5)) (Lib.bytesWorld w 5 (bs l)) := by
  have := Lib.run_convert_string_bytes (P := Tryd.prog) w 9 60 5 (bs l) Tryd.underlying9 Tryd.underlying60 Tryd.underlying5
  rw [bs_size] at this
  exact this
/-- a concatenation of texts -/
theorem add_texts (w : World) (a b : List UInt8) (h : a.length + b.length ≤ 1000000000) : (binOp .add 9 (.string (bs a)) (.string (bs b))).run Tryd.prog w = .ok (.string (bs (a ++ b))) w := by
  have e : bs a ++ bs b = bs (a ++ b) := by unfold bs; ext1; simp
  have h1 : ¬ 9223372036854775807 < (bs a).size + (bs b).size := by rw [bs_size, bs_size]; omega
  simp [binOp, Op.stringOp, h1, e]
  omega

end Go.Proofs.YtgohnlcgidmlfaaDoor
