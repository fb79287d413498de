/- Lists of numbers of a call's own; SameInts, CopyInts; where a table of latches lies; Take, Drop, Holder. -/
import Derived.Test.YtpdihmlilbccjaaMda
import Derived.Test.YtpdihmlilbccjaaJlp
import Derived.BigQuiet
import Derived.KernelRfl
set_option linter.unusedVariables false
set_option linter.unusedSimpArgs false
namespace Go.Proofs.Ytpdihmlilbccjaa
open Go.RowKit

def vI (x : Int) : Value := .int .i64 x
/-- all blocks but o stay -/
structure Chg (o : Option Nat) (B : Nat) (w w' : World) : Prop where
  size : w.heap.size ≤ w'.heap.size
  blk : ∀ b, b < w.heap.size → o ≠ some b → w'.heap[b]? = w.heap[b]?
  bel : Below B w w'
theorem only_refl (o : Option Nat) (B : Nat) (w : World) : Chg o B w w := ⟨Nat.le_refl _, fun _ _ _ => rfl, Below.refl _ w⟩
theorem Chg.trans {o : Option Nat} {B : Nat} {w w' w'' : World} (h : Chg o B w w') (h' : Chg o B w' w'') : Chg o B w w'' :=
  ⟨Nat.le_trans h.size h'.size, fun b hb hn => (h'.blk b (Nat.lt_of_lt_of_le hb h.size) hn).trans (h.blk b hb hn), h.bel.trans h'.bel⟩
theorem Chg.of_below {B : Nat} {w w' : World} (h : Below w.heap.size w w') (hB : B ≤ w.heap.size) (o : Option Nat) : Chg o B w w' := ⟨h.size, fun b hb _ => h.block b hb, h.mono hB⟩
theorem Chg.drawn (o : Option Nat) (B : Nat) (w : World) (n : Nat) : Chg o B w (w.drewN n) := ⟨Nat.le_refl _, fun _ _ _ => rfl, ⟨rfl, rfl, rfl, Nat.le_refl _, fun _ _ => rfl⟩⟩

/-- a list of numbers of the call's own -/
def OwnN (w : World) (base : Nat) (v : Value) (xs : List Int) : Prop := w.ownsRow base 3 1 v xs.length (xs.map vI)
theorem OwnN.keep {w w' : World} {base : Nat} {v : Value} {xs : List Int} (h : OwnN w base v xs) (hk : ∀ b, v.ownBlock = some b → w'.heap[b]? = w.heap[b]?) : OwnN w' base v xs := by
  refine ⟨h.1, ?_⟩
  rcases h.2 with hn | ⟨g, cap, cur, rfl, hg, hh, rest⟩
  · exact .inl hn
  · exact .inr ⟨g, cap, cur, rfl, hg, (hk g rfl).trans hh, rest⟩
theorem OwnN.lt {w : World} {base : Nat} {v : Value} {xs : List Int} (h : OwnN w base v xs) {b : Nat} (hb : v.ownBlock = some b) : base ≤ b ∧ b < w.heap.size := World.ownsRow.lt h b hb
theorem OwnN.chg {w w' : World} {base B : Nat} {v : Value} {xs : List Int} {o : Option Nat} (h : OwnN w base v xs) (H : Chg o B w w') (hn : ∀ b, v.ownBlock = some b → o ≠ some b) : OwnN w' base v xs :=
  h.keep fun b hb => H.blk b (h.lt hb).2 (hn b hb)
theorem OwnN.form {w : World} {base : Nat} {v : Value} {xs : List Int} (h : OwnN w base v xs) : ∃ A c, v = .slice A xs.length c := by
  rcases h.2 with ⟨rfl, h2⟩ | ⟨g, cap, cur, rfl, -⟩
  · rw [h2]; exact ⟨_, _, rfl⟩
  · exact ⟨_, _, rfl⟩
theorem OwnN.form_n {w : World} {base : Nat} {v : Value} {xs : List Int} (h : OwnN w base v xs) {k : Nat} (hk : xs.length = k) : ∃ A c, v = .slice A k c := by
  subst hk
  exact h.form
def sliceLen : Value → Nat
  | .slice _ n _ => n
  | _ => 0
theorem OwnN.nil (w : World) (base : Nat) : OwnN w base (.slice none 0 0) [] := World.ownsRow_nil _ _ _ _
theorem OwnN.lit (w : World) (base : Nat) (hb : base ≤ w.heap.size) : OwnN (w.alloc (.cells #[] 3)) base (.slice (some ⟨w.heap.size, 0, none⟩) 0 0) [] :=
  World.ownsRow_lit (e := 3) (size := 1) w #[] 0 hb (by unfold maxLen; omega) rfl
theorem OwnN.cell {w : World} {base : Nat} {A : Option Addr} {n c : Nat} {xs : List Int} (h : OwnN w base (.slice A n c) xs) (k : Nat) (hk : k < xs.length) : ∃ g, A = some ⟨g, 0, none⟩ ∧ w.cell? ⟨g, 0 + k, none⟩ = some (.int .i64 xs[k]) := by
  rcases h.2 with ⟨h1, h2⟩ | ⟨g, cap, cur, hv, -⟩
  · omega
  · cases hv
    have hc := World.ownsRow.cells (g := g) h rfl k (.int .i64 xs[k]) (by rw [List.getElem?_map, List.getElem?_eq_getElem hk]; rfl)
    rw [add_none] at hc
    exact ⟨g, rfl, hc⟩

theorem info_i : (Try.prog.info? 3).map (fun i => (i.zero, i.size, i.bytes)) = some (some (.int .i64 0), 1, 8) := by kernel_rfl
theorem new_cell (w : World) (a : Value) (e : TypeId) : (w.alloc (.cells #[a] e)).cell? ((⟨w.heap.size, 0, none⟩ : Addr).add 0) = some a := by
  rw [add_none]
  unfold World.cell?
  rw [show (⟨w.heap.size, 0 + 0, none⟩ : Addr).block = w.heap.size from rfl, heap_alloc_new]
  rfl
/-- append of one number that a literal holds -/
theorem wpList_app {W : World} {ops : Array Oper} {rest : List Oper} {o : Oper} {act : Act} {Q : Exit → Act → World → Prop} (hgd : o.guard = none) (s x : Operand)
    (ho : o.op = .call { callee := .builtin .append, args := #[s, x], argTypes := #[23, 23] })
    (base : Nat) (v : Value) (xs : List Int) (hs : act.eval s = v) {w : World} (a : Int) (hW : W = w.alloc (.cells #[.int .i64 a] 3)) (hown : OwnN w base v xs) (hn : xs.length ≤ 1000000) (c : Nat) (hx : act.eval x = .slice (some ⟨w.heap.size, 0, none⟩) 1 c) (hbase : base ≤ w.heap.size)
    (h : ∀ v' w', OwnN w' base v' (xs ++ [a]) → Chg v.ownBlock base w w' → (∀ b, v'.ownBlock = some b → v.ownBlock = some b ∨ w.heap.size ≤ b) → wpList Try.prog ops Q rest (act.put o.dst v') w') :
    wpList Try.prog ops Q (o :: rest) act W := by
  obtain ⟨i0, hi0, hz0, hz1, hz2⟩ := info_parts info_i
  have hsz : W.heap.size = w.heap.size + 1 := by rw [hW]; simp
  refine wpList_append_lies W hgd s x 23 ho base 3 i0 (.int .i64 0) 1 8 Try.underlying23 hi0 hz0 hz1 hz2 rfl (by omega) v xs.length (xs.map vI) hs (by rw [hW]; exact World.ownsRow.alloc hown _) ⟨w.heap.size, 0, none⟩ 1 c [.int .i64 a] hx rfl (fun j u hj => by
    obtain rfl : j = 0 := by
      rcases Nat.eq_zero_or_pos j with h0 | h0
      · exact h0
      · rw [List.getElem?_eq_none (by show 1 ≤ j; exact h0)] at hj; cases hj
    simp at hj
    subst hj
    rw [hW]
    exact new_cell w _ _) (fun u hu => by simp at hu; subst hu; rfl) (by omega) (by unfold maxLen; omega) (by omega) (by omega) W.heap.size rfl fun g cap w' h1 h2 h3 h4 => ?_
  refine h _ w' ?_ ⟨by have := h2.size; omega, fun b hb hne => ?_, ?_⟩ (fun b hb => by
    obtain rfl : g = b := by simpa [Value.ownBlock] using hb
    exact h3.imp id fun e => by omega)
  · unfold OwnN
    rw [List.length_append, List.map_append]
    exact h1
  · rw [h2.block b (by omega) (fun e => hne e.symm), hW]
    exact Below.heap_alloc _ _ _ hb
  · rw [hW] at h2
    exact ((Below.refl base w).alloc hbase _).grown h2 (by simp; omega) (fun g hg => (hown.lt hg).1)

/-- the cells of a list, wherever it lies -/
def LieN (w : World) (v : Value) (xs : List Int) : Prop :=
  ∃ A c, v = .slice A xs.length c ∧ xs.length ≤ c ∧ c ≤ 9223372036854775807 ∧ ∀ (k : Nat) (hk : k < xs.length), ∃ b off, A = some ⟨b, off, none⟩ ∧ w.cell? ⟨b, off + k, none⟩ = some (.int .i64 xs[k])
theorem OwnN.lie {w : World} {base : Nat} {v : Value} {xs : List Int} (h : OwnN w base v xs) : LieN w v xs := by
  rcases h.2 with ⟨rfl, h2⟩ | ⟨g, cap, cur, rfl, -, -, h1, h2, -⟩
  · obtain rfl : xs = [] := List.eq_nil_of_length_eq_zero h2
    exact ⟨_, _, rfl, Nat.le_refl _, by omega, fun k hk => absurd hk (by simp)⟩
  · refine ⟨_, cap, rfl, h1, by unfold maxLen at h2; omega, fun k hk => ?_⟩
    obtain ⟨g', e, hc⟩ := h.cell k hk
    cases e
    exact ⟨g, 0, rfl, hc⟩
theorem lit_lie (w : World) (x : Int) : LieN (w.alloc (.cells #[.int .i64 x] 3)) (.slice (some ⟨w.heap.size, 0, none⟩) 1 1) [x] := by
  refine ⟨_, 1, rfl, by simp, by omega, fun k hk => ⟨w.heap.size, 0, rfl, ?_⟩⟩
  obtain rfl : k = 0 := by simpa using hk
  have := new_cell w (.int .i64 x) 3
  rw [add_none] at this
  exact this
theorem OwnN.alloc {w : World} {base : Nat} {v : Value} {xs : List Int} (h : OwnN w base v xs) (o : Obj) : OwnN (w.alloc o) base v xs := World.ownsRow.alloc h o
theorem LieN.drewN {w : World} {v : Value} {xs : List Int} (h : LieN w v xs) (n : Nat) : LieN (w.drewN n) v xs := h

set_option maxRecDepth 100000 in
theorem same_any {w : World} {xs : List Int} {v v' : Value} (h : LieN w v xs) (h' : LieN w v' xs) :
    Calls Try.prog 17 #[v, v'] w fun e w' => e = .returned (.bool true) ∧ ∃ m, w' = w.drewN m := by
  obtain ⟨A, c, rfl, hc, hM, h⟩ := h
  obtain ⟨A', c', rfl, hc', hM', h'⟩ := h'
  obtain ⟨ns, hns⟩ : ∃ ns, ns = xs.length := ⟨_, rfl⟩
  rw [← hns] at hc hc'
  rw [← hns]
  have HX := Lib.hid h
  have HX' := Lib.hid h'
  have HNS := Lib.hid hns
  clear hns h h'
  go_enter Try.func17, Try.ntmps17
  go_wp2
  go_loopw [5] (fun i wr => ∃ k m : Nat, k ≤ ns ∧ i = .int .i64 k ∧ Hid (wr = w.drewN m)) (fun i _ => ns - (intOf i).toNat)
  case atStart => exact ⟨0, 0, Nat.zero_le _, rfl, Lib.hid rfl⟩
  case round =>
    obtain ⟨wo, rfl⟩ : ∃ wo : World, wo = wr := ⟨_, rfl⟩
    obtain ⟨k, m, hk, rfl, HQ⟩ := hrel
    by_cases hlt : k < ns
    · have hke : k < xs.length := by rw [← HNS.out]; exact hlt
      obtain ⟨b, off, rfl, r0⟩ := HX.out k hke
      obtain ⟨b', off', rfl, r0'⟩ := HX'.out k hke
      obtain ⟨x, hx⟩ : ∃ x, x = xs[k] := ⟨_, rfl⟩
      rw [← hx] at r0 r0'
      have k0 : wo.cell? ⟨b, off + k, none⟩ = some (.int .i64 x) := by rw [HQ.out]; exact r0
      have k0' : wo.cell? ⟨b', off' + k, none⟩ = some (.int .i64 x) := by rw [HQ.out]; exact r0'
      clear hx r0 r0'
      clear HX HX'
      go_wp2
      go_quiet (fail)
      generalize hwq : wo.drewN _ = wq
      have HQ2 : ∃ m', Hid (wq = w.drewN m') := ⟨_, Lib.hid (by rw [← hwq, HQ.out, World.drewN_drewN])⟩
      obtain ⟨m', HQ2⟩ := HQ2
      clear hwq
      go_wp2
      go_roundw
      case rel => exact ⟨k + 1, m', by omega, by go_num, HQ2⟩
      case measure => simp [intOf]; omega
    · clear HX HX'
      go_wp2
      go_ret
      exact ⟨rfl, m, HQ.out⟩

/-- append of a whole list to an empty one -/
theorem wpList_cp {w : World} {ops : Array Oper} {rest : List Oper} {o : Oper} {act : Act} {Q : Exit → Act → World → Prop} (hgd : o.guard = none) (s x : Operand)
    (ho : o.op = .call { callee := .builtin .append, args := #[s, x], argTypes := #[23, 23] })
    (base g0 c0 : Nat) (hs : act.eval s = .slice (some ⟨g0, 0, none⟩) 0 c0) (hown : OwnN w base (.slice (some ⟨g0, 0, none⟩) 0 c0) []) {xs : List Int} {v : Value} (hx : act.eval x = v) (hl : LieN w v xs) (hn : xs.length ≤ 1000000) (hbase : base ≤ w.heap.size)
    (h : ∀ v' w', OwnN w' base v' xs → w.grownBy w' (some g0) → wpList Try.prog ops Q rest (act.put o.dst v') w') : wpList Try.prog ops Q (o :: rest) act w := by
  obtain ⟨i0, hi0, hz0, hz1, hz2⟩ := info_parts info_i
  obtain ⟨A, c, rfl, hc, hM, hA⟩ := hl
  cases A with
  | none =>
    have h0 : xs = [] := by
      cases xs with
      | nil => rfl
      | cons y ys =>
        obtain ⟨b, off, e, -⟩ := hA 0 (by simp)
        cases e
    subst h0
    have hr : (Builtin.append_ #[23, 23] o.type #[.slice (some ⟨g0, 0, none⟩) 0 c0, .slice none 0 c]).run Try.prog w = .ok (.slice (some ⟨g0, 0, none⟩) 0 c0) w := by
      simp [Builtin.append_, run_underlying Try.underlying23, sizeOf, typeInfo, hi0, Builtin.lenOf, Builtin.firstCells, loadCells, loadCellsFrom, storeCells]
    refine wpList_plain hgd fun K hK => ?_
    unfold Oper.wp execOp
    simp only [ho, resolve, invoke, builtin, Sem.run_bind, Sem.run_pure, Result.andThen_ok, List.map_toArray, List.map_cons, List.map_nil, hs, hx, List.length_nil, hr]
    exact hK _ _ (h _ w hown ⟨rfl, rfl, rfl, Nat.le_refl _, fun _ _ _ => rfl⟩)
  | some ad =>
    refine wpList_append_own_at w hgd s x 23 ho base 3 i0 (.int .i64 0) 1 8 Try.underlying23 hi0 hz0 hz1 hz2 rfl (by decide) _ 0 [] hs hown ad xs.length c (xs.map vI) hx (by simp) (fun j u hj => ?_) (fun u hu => ?_) (by unfold maxLen; omega) (by omega) hbase fun v' w' h1 h2 _ h4 => h v' w' (by unfold OwnN; simpa using h1) h2
    · have hjl : j < xs.length := by simpa using (List.getElem?_eq_some_iff.1 hj).1
      obtain ⟨b, off, e, hcell⟩ := hA j hjl
      cases e
      rw [add_none, hcell, ← hj, List.getElem?_map, List.getElem?_eq_getElem hjl]
      rfl
    · obtain ⟨y, -, rfl⟩ := List.mem_map.1 hu
      rfl

def CopyN (w : World) (xs : List Int) (e : Ending) (w' : World) : Prop := ∃ v, e = .returned v ∧ OwnN w' w.heap.size v xs ∧ Below w.heap.size w w'
set_option maxRecDepth 100000 in
theorem rcopy_any {w : World} {xs : List Int} {v : Value} (h : LieN w v xs) (hn : xs.length ≤ 1000000) (hS : ∀ A n c, v = .slice (some A) n c → A.block < w.heap.size) :
    Calls Try.prog 14 #[v] w (CopyN w xs) := by
  obtain ⟨A, c, rfl, hc, hM, hA⟩ := id h
  have HX : LieN (w.alloc (.cells #[] 3)) (.slice A xs.length c) xs := ⟨A, c, rfl, hc, hM, fun k hk => by
    obtain ⟨b, off, e, h0⟩ := hA k hk
    refine ⟨b, off, e, ?_⟩
    have hlt : b < w.heap.size := (World.block_lt_of_cell? w _ h0)
    exact (World.cell?_of_block (Below.heap_alloc _ _ _ hlt)).trans h0⟩
  have HX := Lib.hid HX
  have HN := Lib.hid hn
  have HO := Lib.hid (OwnN.lit w w.heap.size (Nat.le_refl _))
  clear h hA hS
  go_enter Try.func14, Try.ntmps14
  go_wp2_with (first
    | (at_builtin; go_loud (refine wpList_cp rfl _ _ rfl w.heap.size w.heap.size 0 rfl HO.out rfl HX.out HN.out (by simp) ?_; go_loud (intro v' w' ho hg))))
  go_ret
  exact ⟨_, rfl, ho, ((Below.refl _ w).alloc (Nat.le_refl _) _).grown hg (by simp) (fun k hk => by have e : some w.heap.size = some k := hk; injection e with e; omega)⟩


theorem OwnN.below {w w' : World} {base : Nat} {v : Value} {xs : List Int} (h : OwnN w base v xs) (hb : Below w.heap.size w w') : OwnN w' base v xs := h.keep fun b hb2 => hb.block b (h.lt hb2).2
theorem OwnN.mono {w : World} {base base' : Nat} {v : Value} {xs : List Int} (h : OwnN w base v xs) (hb : base' ≤ base) : OwnN w base' v xs := by
  refine ⟨h.1, ?_⟩
  rcases h.2 with hn | ⟨g, cap, cur, rfl, hg, rest⟩
  · exact .inl hn
  · exact .inr ⟨g, cap, cur, rfl, Nat.le_trans hb hg, rest⟩
theorem LieN.below {w w' : World} {v : Value} {xs : List Int} (h : LieN w v xs) (hb : Below w.heap.size w w') : LieN w' v xs := by
  obtain ⟨A, c, rfl, h1, h2, h3⟩ := h
  refine ⟨A, c, rfl, h1, h2, fun k hk => ?_⟩
  obtain ⟨b, off, e, hc⟩ := h3 k hk
  exact ⟨b, off, e, (World.cell?_of_block (hb.block b (World.block_lt_of_cell? w _ hc))).trans hc⟩
/-- a copy -/
theorem bounded_lie {w : World} {v : Value} {xs : List Int} (h : LieN w v xs) : 0 < xs.length → ∀ A n c, v = .slice (some A) n c → A.block < w.heap.size := fun h0 A n c e => by
  obtain ⟨A', c', e', -, -, h3⟩ := h
  obtain ⟨b, off, eA, hc⟩ := h3 0 h0
  rw [e'] at e
  cases e
  cases eA
  exact World.block_lt_of_cell? w _ hc
set_option maxRecDepth 100000 in
set_option maxHeartbeats 1000000 in
theorem clone_any {w : World} {xs : List Int} {g n c : Nat} (hn : n = xs.length) (h : LieN w (.slice (some ⟨g, 0, none⟩) n c) xs) (hl : xs.length ≤ 1000000) :
    Calls Try.prog 25 #[.slice (some ⟨g, 0, none⟩) n c] w (CopyN w xs) := by
  subst hn
  have HX : LieN (w.alloc (.cells #[] 3)) (.slice (some ⟨g, 0, none⟩) xs.length c) xs := h.below ((Below.refl _ w).alloc (Nat.le_refl _) _)
  have HX := Lib.hid HX
  have HN := Lib.hid hl
  have HO := Lib.hid (OwnN.lit w w.heap.size (Nat.le_refl _))
  obtain ⟨n, hn⟩ : ∃ n, n = xs.length := ⟨_, rfl⟩
  rw [← hn] at HX ⊢
  have hsn : ∀ w : World, (binOp .eql 23 (.slice (some ⟨g, 0, none⟩) n c) (.slice none 0 0)).run Try.prog w = .ok (.bool false) w := fun _ => by kernel_rfl
  clear h hn hl
  go_enter Try.func25, Try.ntmps25
  go_wp2_with (first
    | (at_builtin; go_loud (refine wpList_cp rfl _ _ rfl w.heap.size w.heap.size 0 rfl HO.out rfl HX.out HN.out (by simp) ?_; go_loud (intro v' w' ho hg))))
  go_ret
  exact ⟨_, rfl, ho, ((Below.refl _ w).alloc (Nat.le_refl _) _).grown hg (by simp) (fun k hk => by have e : some w.heap.size = some k := hk; injection e with e; omega)⟩

/-- a table of latches at h; its row at g -/
structure LtAt (w : World) (base h g c : Nat) (hs : List Int) : Prop where
  hh : base ≤ h
  row : w.heap[h]? = some (.cells #[.slice (some ⟨g, 0, none⟩) hs.length c] 48 (0, 0))
  own : OwnN w base (.slice (some ⟨g, 0, none⟩) hs.length c) hs
  good : Good hs
theorem LtAt.cell {w : World} {base h g c : Nat} {hs : List Int} (X : LtAt w base h g c hs) : w.cell? ⟨h, 0, none⟩ = some (.slice (some ⟨g, 0, none⟩) hs.length c) := by
  rw [cell_of_row w h 0 _ _ _ X.row]; rfl
theorem LtAt.hlt {w : World} {base h g c : Nat} {hs : List Int} (X : LtAt w base h g c hs) : h < w.heap.size := heap_lt X.row
theorem LtAt.glt {w : World} {base h g c : Nat} {hs : List Int} (X : LtAt w base h g c hs) : g < w.heap.size := (X.own.lt (b := g) rfl).2
theorem LtAt.hg {w : World} {base h g c : Nat} {hs : List Int} (X : LtAt w base h g c hs) : base ≤ g := (X.own.lt (b := g) rfl).1
theorem LtAt.at {w : World} {base h g c : Nat} {hs : List Int} (X : LtAt w base h g c hs) {k : Nat} (hk : k < hs.length) : w.cell? ⟨g, k, none⟩ = some (.int .i64 (hs.getD k (-1))) := by
  rw [World.ownsRow.cellAt X.own k (by omega), List.getElem?_map, List.getD_eq_getElem?_getD, List.getElem?_eq_getElem hk]
  rfl
theorem LtAt.cap {w : World} {base h g c : Nat} {hs : List Int} (X : LtAt w base h g c hs) : hs.length ≤ c ∧ c ≤ 9223372036854775807 := by
  rcases X.own.2 with ⟨h1, -⟩ | ⟨g', cap, cur, hv, -, -, h1, h2, -⟩
  · cases h1
  · cases hv
    exact ⟨h1, by unfold maxLen at h2; omega⟩
theorem LtAt.ne {w : World} {base h g c : Nat} {hs : List Int} (X : LtAt w base h g c hs) : g ≠ h := by
  rintro rfl
  rcases X.own.2 with ⟨h1, -⟩ | ⟨g', cap, cur, hv, -, hg, -⟩
  · cases h1
  · cases hv
    rw [X.row] at hg
    simp at hg
theorem LtAt.keep {w w' : World} {base h g c : Nat} {hs : List Int} (X : LtAt w base h g c hs) (h1 : w'.heap[h]? = w.heap[h]?) (h2 : w'.heap[g]? = w.heap[g]?) : LtAt w' base h g c hs :=
  ⟨X.hh, h1.trans X.row, X.own.keep fun b hb => by
    have e : g = b := by simpa [Value.ownBlock] using hb
    rw [← e, h2], X.good⟩
theorem LtAt.below {w w' : World} {base h g c : Nat} {hs : List Int} (X : LtAt w base h g c hs) (hb : Below w.heap.size w w') : LtAt w' base h g c hs := X.keep (hb.block h X.hlt) (hb.block g X.glt)
theorem LtAt.chg {w w' : World} {B B' h g c : Nat} {xs : List Int} {o : Option Nat} (X : LtAt w B h g c xs) (H : Chg o B' w w') (h1 : o ≠ some h) (h2 : o ≠ some g) : LtAt w' B h g c xs := X.keep (H.blk h X.hlt h1) (H.blk g X.glt h2)
theorem LtAt.drewN {w : World} {B h g c : Nat} {xs : List Int} (X : LtAt w B h g c xs) (n : Nat) : LtAt (w.drewN n) B h g c xs := X.keep rfl rfl
theorem LtAt.set {w : World} {base h g c : Nat} {hs : List Int} (X : LtAt w base h g c hs) {k : Nat} {x : Int} (hx : Good (hs.set k x)) : LtAt (w.setCell ⟨g, k, none⟩ (.int .i64 x)) base h g c (hs.set k x) ∧ Chg (some g) base w (w.setCell ⟨g, k, none⟩ (.int .i64 x)) := by
  obtain ⟨h1, h2⟩ := World.ownsRow.stored X.own k (.int .i64 x)
  refine ⟨⟨X.hh, ?_, ?_, hx⟩, ⟨by simp, fun b hb hne => h2.block b hb (fun e => hne e.symm), h2.os, h2.tape, h2.output, h2.size, fun b hb => h2.block b (by have := X.hg; have := X.glt; omega) (fun e => by
    injection e with e
    have := X.hg
    omega)⟩⟩
  · rw [h2.block h X.hlt (fun e => X.ne (by injection e with e; exact e.symm)), X.row, List.length_set]
  · unfold OwnN
    rw [List.length_set, show (hs.set k x).map vI = (hs.map vI).set k (.int .i64 x) from by rw [List.map_set]; rfl]
    exact h1
def hasM (hs : List Int) (l : Int) : Bool := decide (0 ≤ l ∧ l < hs.length)
set_option maxRecDepth 100000 in
theorem has_any {w : World} {base h g c : Nat} {hs : List Int} (X : LtAt w base h g c hs) (l : Int) : Calls Try.prog 24 #[.pointer (some ⟨h, 0, none⟩), .int .i64 l] w fun e w' => e = .returned (.bool (hasM hs l)) ∧ w = w' := by
  have hc := X.cell
  have hlt := X.hlt
  have h8 := X.good.len
  unfold hasM
  obtain ⟨n, hn⟩ : ∃ n, n = hs.length := ⟨_, rfl⟩
  rw [← hn] at hc h8 ⊢
  clear X hn
  by_cases h0 : l < 0
  · rw [show decide (0 ≤ l ∧ l < (n : Int)) = false from decide_eq_false (by omega)]
    go_enter Try.func24, Try.ntmps24
    go_wp2
    go_ret
    exact ⟨rfl, rfl⟩
  · by_cases h1 : l < n
    · rw [show decide (0 ≤ l ∧ l < (n : Int)) = true from decide_eq_true (by omega)]
      go_enter Try.func24, Try.ntmps24
      go_wp2
      go_ret
      exact ⟨rfl, rfl⟩
    · rw [show decide (0 ≤ l ∧ l < (n : Int)) = false from decide_eq_false (by omega)]
      go_enter Try.func24, Try.ntmps24
      go_wp2
      go_ret
      exact ⟨rfl, rfl⟩

end Go.Proofs.Ytpdihmlilbccjaa
