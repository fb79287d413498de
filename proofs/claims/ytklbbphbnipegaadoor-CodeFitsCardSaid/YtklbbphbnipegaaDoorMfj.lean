/- Bent code: what is known of it behind the switch. -/
import Derived.Test.YtklbbphbnipegaaDoorMff
import Derived.Test.YtklbbphbnipegaaDoorMeu
set_option linter.unusedVariables false
set_option linter.unusedSimpArgs false
namespace Go.Proofs.YtklbbphbnipegaaDoor
open Go.RowKit

def Bd (m : Mo) : Prop := (m.funcs.length ≤ 1000000 ∧ ∀ f ∈ m.funcs, f.code.length ≤ 1000000 ∧ ∀ o ∈ f.code, o.args.length ≤ 1000000) ∧ (m.globals.length ≤ 1000000 ∧ m.structs.length ≤ 1000000 ∧ m.chans.length ≤ 1000000 ∧ m.locks.length ≤ 1000000 ∧ m.inputs.length ≤ 1000000 ∧ m.sinks.length ≤ 1000000 ∧ m.hatches.length ≤ 1000000 ∧ m.threads.length ≤ 1000000)
theorem mem_set_or {α : Type} {l : List α} {k : Nat} {a x : α} (h : x ∈ l.set k a) : x = a ∨ x ∈ l := by
  rcases List.mem_or_eq_of_mem_set h with h | h
  · exact .inr h
  · exact .inl h
theorem Bd.setF {m : Mo} (h : Bd m) (i : Nat) (F : Fn) (hF : F.code.length ≤ 1000000 ∧ ∀ o ∈ F.code, o.args.length ≤ 1000000) : Bd (setF m i F) := by
  obtain ⟨⟨h1, h2⟩, h3⟩ := h
  refine ⟨⟨by unfold Go.Proofs.YtklbbphbnipegaaDoor.setF; simpa using h1, fun f hf => ?_⟩, h3⟩
  rcases mem_set_or hf with rfl | hf
  · exact hF
  · exact h2 f hf
theorem Bd.setO {m : Mo} (h : Bd m) (i k : Nat) (f : Fn) (hf : f ∈ m.funcs) (O : Opx) (hO : O.args.length ≤ 1000000) : Bd (setO m i k f O) := by
  have h2 := h.1.2 f hf
  refine h.setF i _ ⟨by simpa using h2.1, fun o ho => ?_⟩
  rcases mem_set_or ho with rfl | ho
  · exact hO
  · exact h2.2 o ho
/-- behind the switch: box P holds code that is wrong -/
def BentAt (P : Nat) (w : World) : Prop := ∃ (m' : Mo) (v' : Vm), MoBlk w P v' ∧ P < w.heap.size ∧ IsMo w (· < w.heap.size) m' v' ∧ rightM m' = false ∧ Bd m'


/-- numbers in a row of one's own -/
theorem flat_ints {w : World} {S : Nat → Prop} : ∀ {xs : List Int} {rows : List (List Value)}, rows.length = xs.length → (∀ (k : Nat) (hk : k < xs.length) (hk' : k < rows.length), KI.Q w S xs[k] rows[k]) → rows.flatten = xs.map (Value.int .i64) ∧ ∀ x ∈ xs, In64 x
  | [], rows, hl, _ => by
    obtain rfl : rows = [] := List.eq_nil_of_length_eq_zero hl
    simp
  | x :: xs, [], hl, _ => by simp at hl
  | x :: xs, r :: rows, hl, h => by
    obtain ⟨h1, h2⟩ := flat_ints (xs := xs) (rows := rows) (by simpa using hl) (fun k hk hk' => h (k + 1) (by simp; omega) (by simp; omega))
    obtain ⟨h3, h4⟩ := h 0 (by simp) (by simp)
    simp only [List.getElem_cons_zero] at h3 h4
    refine ⟨by rw [List.flatten_cons, h1, h3]; rfl, fun y hy => ?_⟩
    rcases List.mem_cons.1 hy with rfl | hy
    · exact h4
    · exact h2 y hy
theorem lies_of_row {w : World} {base : Nat} {e : TypeId} {xs : List Int} {g cap : Nat} (h : w.ownsRow base e 1 (.slice (some ⟨g, 0, none⟩) xs.length cap) xs.length (xs.map (Value.int .i64))) (hi : ∀ x ∈ xs, In64 x) (hn : xs.length ≤ 140737488355328) : Lies KI w (fun b => b = g) xs (.slice (some ⟨g, 0, none⟩) xs.length cap) := by
  have hc := h.cells (g := g) rfl
  rcases h.2 with ⟨h1, -⟩ | ⟨g', cap', cur, hv, -, -, h1, h2, -⟩
  · cases h1
  · cases hv
    refine ⟨some ⟨g, 0, none⟩, cap, fun k => [.int .i64 (xs[k]?.getD 0)], rfl, h1, by unfold maxLen at h2; omega, hn, fun k hk => ⟨g, 0, rfl, rfl, ⟨by dsimp only; rw [List.getElem?_eq_getElem hk]; rfl, hi _ (List.getElem_mem hk)⟩, fun j hj => ?_⟩⟩
    obtain rfl : j = 0 := by have : KI.sz = 1 := rfl; omega
    have := hc k (.int .i64 xs[k]) (by rw [List.getElem?_map, List.getElem?_eq_getElem hk]; rfl)
    rw [add_none, Nat.zero_add] at this
    show w.cell? ⟨g, 0 + k * 1 + 0, none⟩ = _
    rw [show 0 + k * 1 + 0 = k from by omega, this]
    dsimp only
    rw [List.getElem?_eq_getElem hk]
    rfl
/-- append of a number to a list of one's own -/
theorem wpList_append_int {P : Program} {w : World} {ops : Array Oper} {rest : List Oper} {o : Oper} {act : Act} {Q : Exit → Act → World → Prop} (hgd : o.guard = none) (s x : Operand) (t e : TypeId)
    (ho : o.op = .call { callee := .builtin .append, args := #[s, x], argTypes := #[t, t] }) (ht : P.underlying t = some (.slice e)) (he : e = 3) (z : Value) (hi : (P.info? e).map (fun i => (i.zero, i.size, i.bytes)) = some (some z, 1, 8)) (hzs : z.cells.size = 1)
    (lo hi' : Nat) (xs : List Int) (v : Value) (hs : act.eval s = v) (hown : OwnH KI 3 w lo hi' xs v) (hn : xs.length ≤ 1000000)
    (ad : Addr) (c : Nat) (a : Int) (hx : act.eval x = .slice (some ad) 1 c) (hc : w.cell? (ad.add 0) = some (.int .i64 a)) (ha : In64 a)
    (h : ∀ g cap w', Lies KI w' (fun b => b = g) (xs ++ [a]) (.slice (some ⟨g, 0, none⟩) (xs.length + 1) cap) → w.grownBy w' v.ownBlock → (v.ownBlock = some g ∨ g = w.heap.size) → g < w'.heap.size → wpList P ops Q rest (act.put o.dst (.slice (some ⟨g, 0, none⟩) (xs.length + 1) cap)) w') : wpList P ops Q (o :: rest) act w := by
  subst he
  obtain ⟨i0, hi0, hz0, hz1, hz2⟩ := info_parts hi
  obtain ⟨rows, hl, hM, hrow, hbb, hq⟩ := hown
  obtain ⟨hf, hin⟩ := flat_ints hl hq
  rw [hf] at hrow
  refine wpList_append_lies w hgd s x t ho 0 3 i0 z 1 8 ht hi0 hz0 hz1 hz2 hzs (by omega) v xs.length (xs.map (Value.int .i64)) hs (ownsRow_low hrow (Nat.zero_le _)) ad 1 c [.int .i64 a] hx rfl (fun j u hj => by
    obtain rfl : j = 0 := by
      rcases Nat.eq_zero_or_pos j with h0 | h0
      · exact h0
      · rw [List.getElem?_eq_none (by show 1 ≤ j; exact h0)] at hj; cases hj
    simp at hj
    subst hj
    exact hc) (fun u hu => by simp at hu; subst hu; rfl) (by omega) (by unfold maxLen; omega) (by omega) (Nat.zero_le _) w.heap.size rfl fun g cap w' h1 h2 h3 h4 => ?_
  refine h g cap w' ?_ h2 h3 h4
  have h5 : xs.map (Value.int .i64) ++ [.int .i64 a] = (xs ++ [a]).map (Value.int .i64) := by simp
  rw [h5, show xs.length + 1 = (xs ++ [a]).length from by simp] at h1
  rw [show xs.length + 1 = (xs ++ [a]).length from by simp]
  exact lies_of_row h1 (fun y hy => by
    rcases List.mem_append.1 hy with hy | hy
    · exact hin y hy
    · simp at hy; subst hy; exact ha) (by simp; omega)

theorem MoBlk.set8 {w : World} {g : Nat} {v : Vm} (h : MoBlk w g v) (x : Value) : MoBlk (w.setCell ⟨g, 8, none⟩ x) g { v with t := x } := by
  unfold MoBlk at h ⊢
  simp [World.setCell, Array.getElem?_modify, h, Vm.arr]
theorem MoBlk.other {w : World} {g : Nat} {v : Vm} (h : MoBlk w g v) {p : Addr} (hp : g ≠ p.block) (u : Value) : MoBlk (w.setCell p u) g v := (Below.heap_setCell _ _ _ g hp).trans h

section
variable {w : World} {B Q : Nat} {m : Mo} {v : Vm} {lo hi : Nat → Nat} {H : Nat} {T : List FnT}
theorem bent_of {P : Nat} {m' : Mo} {T' : List FnT} (h : CpMo w B P m' v lo hi H T') (hM : MoBlk w P v) (hP : P < w.heap.size) (hr : rightM m' = false) (hd : Bd m') : BentAt P w :=
  ⟨m', v, hM, hP, h.is_.keep (fun _ _ => rfl) (fun b hb => by omega), hr, hd⟩
/-- one cell of an operation is written -/
theorem bentO (h : CpMo w B Q m v lo hi H T) (hM : MoBlk w Q v) (hQ : Q < w.heap.size) (hd : Bd m) (i : Nat) (hi' : i < m.funcs.length) (k : Nat) (hk : k < m.funcs[i].code.length) (j : Nat) (hj : j < 12) (u : Value) (O' : Opx) {F cap nf : Nat} {C n capC : Nat}
    (hvf : v.f = .slice (some ⟨F, 0, none⟩) nf cap) (hat : w.cell? ⟨F, i * 5 + 4, none⟩ = some (.slice (some ⟨C, 0, none⟩) n capC)) (hC : C < Q)
    (hrow : ∀ va, (opRow m.funcs[i].code[k] va).set j u = opRow O' va) (hargs : O'.args = m.funcs[i].code[k].args) (hin : m.funcs[i].code[k].In → O'.In) (hr : rightM (setO m i k m.funcs[i] O') = false) : BentAt Q (w.setCell ⟨C, k * 12 + j, none⟩ u) := by
  obtain ⟨T', hput⟩ := h.putO i hi' k hk j hj u O' hvf hat rfl hrow hargs hin
  refine bent_of hput (hM.other (by show Q ≠ C; omega) u) (by rw [csz]; exact hQ) hr (hd.setO i k _ (List.getElem_mem hi') O' ?_)
  rw [hargs]
  exact (hd.1.2 _ (List.getElem_mem hi')).2 _ (List.getElem_mem hk)
theorem bentRes (h : CpMo w B Q m v lo hi H T) (hM : MoBlk w Q v) (hQ : Q < w.heap.size) (hd : Bd m) (i : Nat) (hi' : i < m.funcs.length) {F cap nf : Nat} (hvf : v.f = .slice (some ⟨F, 0, none⟩) nf cap) (hF : F < Q) : BentAt Q (w.setCell ⟨F, i * 5 + 3, none⟩ (.int .i64 3)) := by
  obtain ⟨T', hput⟩ := h.putResult i hi' 3 ⟨by omega, by omega⟩ hvf
  exact bent_of hput (hM.other (by show Q ≠ F; omega) _) (by rw [csz]; exact hQ) (bent_6 (f := m.funcs[i]) hi') (hd.setF i _ (by have h0 := hd.1.2 m.funcs[i] (List.getElem_mem hi'); exact h0))
theorem bentNone (h : CpMo w B Q m v lo hi H T) (hM : MoBlk w Q v) (hQ : Q < w.heap.size) (hd : Bd m) (i : Nat) (hi' : i < m.funcs.length) {F cap nf : Nat} (hvf : v.f = .slice (some ⟨F, 0, none⟩) nf cap) (hF : F < Q) : BentAt Q (w.setCell ⟨F, i * 5 + 4, none⟩ (.slice none 0 0)) := by
  obtain ⟨T', hput⟩ := h.putNone i hi' hvf
  exact bent_of hput (hM.other (by show Q ≠ F; omega) _) (by rw [csz]; exact hQ) (bent_7 (f := m.funcs[i]) hi') (hd.setF i _ ⟨by simp, by simp⟩)
/-- a thread more -/
theorem bentThr {w1 : World} (h : CpMo w B Q m v lo hi H T) (hM : MoBlk w Q v) (hQ : Q < w.heap.size) (hd : Bd m) (hth : m.threads.length ≤ 999999) {y : World} (hy : Below w.heap.size w y) (hg : y.grownBy w1 v.t.ownBlock) (x : Int) (hx : x = (m.funcs.length : Int)) {g cap n : Nat}
    (hl : Lies KI w1 (fun b => b = g) (m.threads ++ [x]) (.slice (some ⟨g, 0, none⟩) n cap)) (hgw : v.t.ownBlock = some g ∨ g = y.heap.size) (hgs : g < w1.heap.size) : BentAt Q (w1.setCell ⟨Q, 8, none⟩ (.slice (some ⟨g, 0, none⟩) n cap)) := by
  have hys := hy.size
  have hw1s := hg.size
  have ha := h.e8.all
  have hmid := h.mid
  have htop := h.top
  have hle := h.e8.le
  have nx6 : hi 6 ≤ lo 7 := h.e8.nx 6 (by omega)
  have n5 : hi 5 ≤ lo 6 := h.e8.nx 5 (by omega)
  have n4 : hi 4 ≤ lo 5 := h.e8.nx 4 (by omega)
  have n3 : hi 3 ≤ lo 4 := h.e8.nx 3 (by omega)
  have n2 : hi 2 ≤ lo 3 := h.e8.nx 2 (by omega)
  have n1 : hi 1 ≤ lo 2 := h.e8.nx 1 (by omega)
  have n0 : hi 0 ≤ lo 1 := h.e8.nx 0 (by omega)
  have l1 := hle 1 (by omega)
  have l2 := hle 2 (by omega)
  have l3 := hle 3 (by omega)
  have l4 := hle 4 (by omega)
  have l5 := hle 5 (by omega)
  have l6 := hle 6 (by omega)
  have hob : ∀ b, v.t.ownBlock = some b → lo 7 ≤ b ∧ b < hi 7 := fun b hb => by
    obtain ⟨rows, _, _, hrow, hbb, _⟩ := h.e8.t
    exact ⟨ownsRow_lo hrow hb, hbb b hb⟩
  have hsame : ∀ b, b < Q → ¬ (lo 7 ≤ b ∧ b < hi 7) → (w1.setCell ⟨Q, 8, none⟩ (.slice (some ⟨g, 0, none⟩) n cap)).heap[b]? = w.heap[b]? := fun b hb hn => by
    rw [Below.heap_setCell _ _ _ b (by show b ≠ Q; omega), hg.block b (by omega) (fun e => hn (hob b e.symm)), hy.block b (by omega)]
  have hsz : (w1.setCell ⟨Q, 8, none⟩ (.slice (some ⟨g, 0, none⟩) n cap)).heap.size = w1.heap.size := csz _ _ _
  have hM1 : MoBlk w1 Q v := by
    have e1 : w1.heap[Q]? = y.heap[Q]? := hg.block Q (by omega) (fun e => by have := hob Q e.symm; omega)
    exact (e1.trans (hy.block Q hQ)).trans hM
  have hM2 := hM1.set8 (.slice (some ⟨g, 0, none⟩) n cap)
  have hgQ : g ≠ Q := by
    rcases hgw with e | e
    · have := hob g e; omega
    · omega
  have k8 : ∀ q, q < 7 → ∀ b, lo q ≤ b ∧ b < hi q → (w1.setCell ⟨Q, 8, none⟩ (.slice (some ⟨g, 0, none⟩) n cap)).heap[b]? = w.heap[b]? := fun q hq b hb => by
    have h7 := ha q (by omega)
    refine hsame b (by omega) (fun hn => ?_)
    have : q = 0 ∨ q = 1 ∨ q = 2 ∨ q = 3 ∨ q = 4 ∨ q = 5 ∨ q = 6 := by omega
    rcases this with rfl | rfl | rfl | rfl | rfl | rfl | rfl <;> omega
  have s8 : ∀ q, q < 7 → ∀ b, lo q ≤ b ∧ b < hi q → b < (w1.setCell ⟨Q, 8, none⟩ (.slice (some ⟨g, 0, none⟩) n cap)).heap.size := fun q hq b hb => by have h7 := ha q (by omega); omega
  refine ⟨{ m with threads := m.threads ++ [x] }, { v with t := .slice (some ⟨g, 0, none⟩) n cap }, hM2, by omega, ⟨h.e8.g.lies.keep (k8 0 (by omega)) (s8 0 (by omega)), h.e8.s.lies.keep (k8 1 (by omega)) (s8 1 (by omega)), h.e8.c.lies.keep (k8 2 (by omega)) (s8 2 (by omega)), h.e8.l.lies.keep (k8 3 (by omega)) (s8 3 (by omega)), h.e8.i.lies.keep (k8 4 (by omega)) (s8 4 (by omega)), h.e8.o.lies.keep (k8 5 (by omega)) (s8 5 (by omega)), h.e8.h.lies.keep (k8 6 (by omega)) (s8 6 (by omega)), ?_, ?_⟩, ?_, ?_⟩
  · rw [show ({ m with threads := m.threads ++ [x] } : Mo).funcs = m.funcs from rfl, ← h.fns]
    exact h.f.lies.plainF.keep (fun b hb => hsame b hb.2 (by omega)) (fun b hb => by omega)
  · exact hl.keep (fun b hb => Below.heap_setCell _ _ _ b (by subst hb; exact hgQ)) (fun b hb => by subst hb; omega)
  · subst hx
    exact bent_5
  · obtain ⟨h1, h2, h3, h4, h5, h6, h7, h8, h9⟩ := hd
    exact ⟨h1, h2, h3, h4, h5, h6, h7, h8, by rw [List.length_append]; show m.threads.length + 1 ≤ _; omega⟩
/-- an argument more -/
theorem bentArg {w1 : World} (h : CpMo w B Q m v lo hi H T) (hM : MoBlk w Q v) (hQ : Q < w.heap.size) (hd : Bd m) (i : Nat) (hi' : i < m.funcs.length) (k : Nat) (hk : k < m.funcs[i].code.length) (hargl : m.funcs[i].code[k].args.length ≤ 999999) (hr : rightM m = true) {F cap nf C nC capC : Nat} {va : Value}
    (hT : i < T.length) (hkT : k < T[i].ops.length) (hvf : v.f = .slice (some ⟨F, 0, none⟩) nf cap) (hat : w.cell? ⟨F, i * 5 + 4, none⟩ = some (.slice (some ⟨C, 0, none⟩) nC capC)) (hva : OpAt w C (k * 12) m.funcs[i].code[k] va) (hob : ∀ b, va.ownBlock = some b → T[i].ops[k].lo ≤ b ∧ b < T[i].ops[k].hi)
    {y : World} (hy : Below w.heap.size w y) (hg : y.grownBy w1 va.ownBlock) {g gcap n : Nat} (hl : Lies KI w1 (fun b => b = g) (m.funcs[i].code[k].args ++ [0]) (.slice (some ⟨g, 0, none⟩) n gcap)) (hgw : va.ownBlock = some g ∨ g = y.heap.size) (hgs : g < w1.heap.size) :
    BentAt Q (w1.setCell ⟨C, k * 12 + 8, none⟩ (.slice (some ⟨g, 0, none⟩) n gcap)) ∧ C < Q ∧ H ≤ C := by
  have hfn := h.fnIs hi' hT
  obtain ⟨F1, cap1, cv1, hv1, hHF, hFs, hFn, hat1, -, hcode, hmap, hint, hfin⟩ := h.fn i hi' hT
  obtain ⟨C1, capC1, va1, hcv1, hlC, hCh, hatO, -, -, hintO, hinO, hop⟩ := opH_at hcode hmap k hk hkT
  have eF : F1 = F := by rw [hv1] at hvf; injection hvf with e1; injection e1 with e1; injection e1
  subst eF
  have ec : cv1 = .slice (some ⟨C, 0, none⟩) nC capC := by have := hat1.c4; rw [hat] at this; exact (Option.some.inj this).symm
  have eC : C1 = C := by rw [hcv1] at ec; injection ec with e1; injection e1 with e1; injection e1
  subst eC
  have hHC := hint C1 hlC hCh
  have hys := hy.size
  have hw1s := hg.size
  have ha := h.e8.all
  have hmid := h.mid
  have htop := h.top
  obtain ⟨V, hV⟩ : ∃ V, V = w1.setCell ⟨C1, k * 12 + 8, none⟩ (.slice (some ⟨g, 0, none⟩) n gcap) := ⟨_, rfl⟩
  have hsz : V.heap.size = w1.heap.size := by rw [hV, csz]
  have hsame : ∀ b, b < Q → b ≠ C1 → ¬ (T[i].ops[k].lo ≤ b ∧ b < T[i].ops[k].hi) → V.heap[b]? = w.heap[b]? := fun b hb hn hn2 => by
    rw [hV, Below.heap_setCell _ _ _ b hn, hg.block b (by omega) (fun e => hn2 (hob b e.symm)), hy.block b (by omega)]
  have hQs : V.heap[Q]? = w.heap[Q]? := by
    rw [hV, Below.heap_setCell _ _ _ Q (by show Q ≠ C1; omega), hg.block Q (by omega) (fun e => by have h1 := hob Q e.symm; have h2 := hintO Q h1.1 h1.2; have h3 := hint Q h2.1 h2.2.1; omega), hy.block Q hQ]
  have hCw1 : w1.heap[C1]? = w.heap[C1]? := by
    rw [hg.block C1 (by omega) (fun e => by have h1 := hob C1 e.symm; exact (hintO C1 h1.1 h1.2).2.2 rfl), hy.block C1 (by omega)]
  have hgC : g ≠ C1 := by
    rcases hgw with e | e
    · have h1 := hob g e; exact (hintO g h1.1 h1.2).2.2
    · omega
  have hopOut : ∀ b, ¬ (T[i].lo ≤ b ∧ b < T[i].hi) → b ≠ C1 ∧ ¬ (T[i].ops[k].lo ≤ b ∧ b < T[i].ops[k].hi) := fun b hb => ⟨fun e => hb (by subst e; exact ⟨hlC, hCh⟩), fun h1 => hb (by have := hintO b h1.1 h1.2; exact ⟨this.1, this.2.1⟩)⟩
  have hcodeV : Lies KO V (· < V.heap.size) (m.funcs[i].code.set k { m.funcs[i].code[k] with args := m.funcs[i].code[k].args ++ [0] }) (.slice (some ⟨C1, 0, none⟩) nC capC) := by
    have hap : ApO T[i].ops := by
      obtain ⟨rows, h1, -, -, -, h5⟩ := h.f
      obtain ⟨_, _, _, _, h4, _, _⟩ := h5 i hT (by omega)
      exact h4
    rw [← ec]
    refine lies_putO hcode hmap hap k hk hkT _ (.slice (some ⟨g, 0, none⟩) n gcap) hcv1 (fun l j hl1 hl2 hj => ?_) (fun j hj => ?_) (fun b hb hb2 hn hn2 => hsame b (hint b hb hb2).2 hn hn2) ?_ ⟨hinO.kind, hinO.a, hinO.b, hinO.c, hinO.d, hinO.e, hinO.f, hinO.k, hinO.next, hinO.els, hinO.pl⟩ (fun b hb hb2 => by have := hint b hb hb2; omega)
    · rw [hV, World.cell?_setCell_other _ _ _ _ (fun e => by injection e with _ e2; omega)]
      exact World.cell?_of_block hCw1
    · have hcell : ∀ j, w1.cell? ⟨C1, j, none⟩ = w.cell? ⟨C1, j, none⟩ := fun j => World.cell?_of_block hCw1
      by_cases e8 : j = 8
      · subst e8
        rw [hV, World.cell?_setCell_same _ _ _ ((hcell _).trans hva.c8)]
        rfl
      · rw [hV, World.cell?_setCell_other _ _ _ _ (fun e => by injection e with _ e2; omega), hcell]
        have : j = 0 ∨ j = 1 ∨ j = 2 ∨ j = 3 ∨ j = 4 ∨ j = 5 ∨ j = 6 ∨ j = 7 ∨ j = 9 ∨ j = 10 ∨ j = 11 := by omega
        rcases this with rfl | rfl | rfl | rfl | rfl | rfl | rfl | rfl | rfl | rfl | rfl
        · exact hva.c0
        · exact hva.c1
        · exact hva.c2
        · exact hva.c3
        · exact hva.c4
        · exact hva.c5
        · exact hva.c6
        · exact hva.c7
        · exact hva.c9
        · exact hva.c10
        · exact hva.c11
    · exact hl.keep (fun b hb => by rw [hV]; exact Below.heap_setCell _ _ _ b (by subst hb; exact hgC)) (fun b hb => by subst hb; omega)
  have hF := h.liesF (w' := V) (S' := (· < V.heap.size)) i hi' hT hv1 hat (hsame F1 hFs (hopOut F1 hFn).1 (hopOut F1 hFn).2) (fun b hb hb2 hn => hsame b hb2 (hopOut b hn).1 (hopOut b hn).2) _ hcodeV (fun b hb hb2 => by omega)
  have k8 : ∀ q, q < 8 → ∀ b, lo q ≤ b ∧ b < hi q → V.heap[b]? = w.heap[b]? := fun q hq b hb => by
    have h7 := ha q hq
    refine hsame b (by omega) (by omega) (fun h1 => ?_)
    have h2 := hintO b h1.1 h1.2
    have h3 := hint b h2.1 h2.2.1
    omega
  have s8 : ∀ q, q < 8 → ∀ b, lo q ≤ b ∧ b < hi q → b < V.heap.size := fun q hq b hb => by have h7 := ha q hq; omega
  rw [← hV]
  refine ⟨⟨setO m i k m.funcs[i] { m.funcs[i].code[k] with args := m.funcs[i].code[k].args ++ [0] }, v, hQs.trans hM, by omega, ⟨h.e8.g.lies.keep (k8 0 (by omega)) (s8 0 (by omega)), h.e8.s.lies.keep (k8 1 (by omega)) (s8 1 (by omega)), h.e8.c.lies.keep (k8 2 (by omega)) (s8 2 (by omega)), h.e8.l.lies.keep (k8 3 (by omega)) (s8 3 (by omega)), h.e8.i.lies.keep (k8 4 (by omega)) (s8 4 (by omega)), h.e8.o.lies.keep (k8 5 (by omega)) (s8 5 (by omega)), h.e8.h.lies.keep (k8 6 (by omega)) (s8 6 (by omega)), hF, h.e8.t.lies.keep (k8 7 (by omega)) (s8 7 (by omega))⟩, bent_3 hi' rfl hk rfl hr, ?_⟩, hHC.2, hHC.1⟩
  refine hd.setO i k _ (List.getElem_mem hi') _ ?_
  show (m.funcs[i].code[k].args ++ [0]).length ≤ _
  rw [List.length_append]
  show _ + 1 ≤ _
  omega
end

end Go.Proofs.YtklbbphbnipegaaDoor
