/- Lists of numbers of a call's own; SameInts; All. -/
import Derived.Test.YtadmacplpmahaaaIab
set_option linter.unusedVariables false
set_option linter.unusedSimpArgs false
namespace Go.Proofs.Ytadmacplpmahaaa
open Go.RowKit

/-- a list of numbers of the call's own -/
def OwnN (w : World) (base : Nat) (v : Value) (xs : List Int) : Prop := w.ownsRow base 3 1 v xs.length (xs.map vI)
theorem OwnN.keep {w w' : World} {base : Nat} {v : Value} {xs : List Int} (h : OwnN w base v xs) (hk : ∀ b, v.ownBlock = some b → w'.heap[b]? = w.heap[b]?) : OwnN w' base v xs := by
  refine ⟨h.1, ?_⟩
  rcases h.2 with hn | ⟨g, cap, cur, rfl, hg, hh, rest⟩
  · exact .inl hn
  · exact .inr ⟨g, cap, cur, rfl, hg, (hk g rfl).trans hh, rest⟩
theorem OwnN.lt {w : World} {base : Nat} {v : Value} {xs : List Int} (h : OwnN w base v xs) {b : Nat} (hb : v.ownBlock = some b) : base ≤ b ∧ b < w.heap.size := World.ownsRow.lt h b hb
theorem OwnN.chg {w w' : World} {base B : Nat} {v : Value} {xs : List Int} {o : Option Nat} (h : OwnN w base v xs) (H : Chg o B w w') (hn : ∀ b, v.ownBlock = some b → o ≠ some b) : OwnN w' base v xs :=
  h.keep fun b hb => H.blk b (h.lt hb).2 (hn b hb)
theorem OwnN.form {w : World} {base : Nat} {v : Value} {xs : List Int} (h : OwnN w base v xs) : ∃ A c, v = .slice A xs.length c := by
  rcases h.2 with ⟨rfl, h2⟩ | ⟨g, cap, cur, rfl, -⟩
  · rw [h2]; exact ⟨_, _, rfl⟩
  · exact ⟨_, _, rfl⟩
theorem OwnN.form_n {w : World} {base : Nat} {v : Value} {xs : List Int} (h : OwnN w base v xs) {k : Nat} (hk : xs.length = k) : ∃ A c, v = .slice A k c := by
  subst hk
  exact h.form
def sliceLen : Value → Nat
  | .slice _ n _ => n
  | _ => 0
/-- it is no queue's block -/
theorem OwnN.apart {w : World} {base : Nat} {v : Value} {xs : List Int} (h : OwnN w base v xs) {B hq c cap : Nat} {ys : List Int} (X : QAt w B hq c cap ys) : v.ownBlock ≠ some hq ∧ v.ownBlock ≠ some c := by
  rcases h.2 with ⟨rfl, h2⟩ | ⟨g, cap', cur, rfl, -, hg, -⟩
  · exact ⟨(by intro e; cases e), (by intro e; cases e)⟩
  · obtain ⟨s, r, hc⟩ := X.chan
    refine ⟨fun e => ?_, fun e => ?_⟩
    · have e : g = hq := by simpa [Value.ownBlock] using e
      subst e
      have := X.row
      rw [hg] at this
      simp at this
    · have e : g = c := by simpa [Value.ownBlock] using e
      subst e
      rw [hg] at hc
      cases hc
theorem OwnN.nil (w : World) (base : Nat) : OwnN w base (.slice none 0 0) [] := World.ownsRow_nil _ _ _ _
theorem OwnN.lit (w : World) (base : Nat) (hb : base ≤ w.heap.size) : OwnN (w.alloc (.cells #[] 3)) base (.slice (some ⟨w.heap.size, 0, none⟩) 0 0) [] :=
  World.ownsRow_lit (e := 3) (size := 1) w #[] 0 hb (by unfold maxLen; omega) rfl
theorem OwnN.cell {w : World} {base : Nat} {A : Option Addr} {n c : Nat} {xs : List Int} (h : OwnN w base (.slice A n c) xs) (k : Nat) (hk : k < xs.length) : ∃ g, A = some ⟨g, 0, none⟩ ∧ w.cell? ⟨g, 0 + k, none⟩ = some (.int .i64 xs[k]) := by
  rcases h.2 with ⟨h1, h2⟩ | ⟨g, cap, cur, hv, -⟩
  · omega
  · cases hv
    have hc := World.ownsRow.cells (g := g) h rfl k (.int .i64 xs[k]) (by rw [List.getElem?_map, List.getElem?_eq_getElem hk]; rfl)
    rw [add_none] at hc
    exact ⟨g, rfl, hc⟩

theorem info_i : (Try.prog.info? 3).map (fun i => (i.zero, i.size, i.bytes)) = some (some (.int .i64 0), 1, 8) := by kernel_rfl
theorem new_cell (w : World) (a : Value) (e : TypeId) : (w.alloc (.cells #[a] e)).cell? ((⟨w.heap.size, 0, none⟩ : Addr).add 0) = some a := by
  rw [add_none]
  unfold World.cell?
  rw [show (⟨w.heap.size, 0 + 0, none⟩ : Addr).block = w.heap.size from rfl, heap_alloc_new]
  rfl
/-- append of one number that a literal holds -/
theorem wpList_app {W : World} {ops : Array Oper} {rest : List Oper} {o : Oper} {act : Act} {Q : Exit → Act → World → Prop} (hgd : o.guard = none) (s x : Operand)
    (ho : o.op = .call { callee := .builtin .append, args := #[s, x], argTypes := #[22, 22] })
    (base : Nat) (v : Value) (xs : List Int) (hs : act.eval s = v) {w : World} (a : Int) (hW : W = w.alloc (.cells #[.int .i64 a] 3)) (hown : OwnN w base v xs) (hn : xs.length ≤ 1000000) (c : Nat) (hx : act.eval x = .slice (some ⟨w.heap.size, 0, none⟩) 1 c) (hbase : base ≤ w.heap.size)
    (h : ∀ v' w', OwnN w' base v' (xs ++ [a]) → Chg v.ownBlock base w w' → (∀ b, v'.ownBlock = some b → v.ownBlock = some b ∨ w.heap.size ≤ b) → wpList Try.prog ops Q rest (act.put o.dst v') w') :
    wpList Try.prog ops Q (o :: rest) act W := by
  obtain ⟨i0, hi0, hz0, hz1, hz2⟩ := info_parts info_i
  have hsz : W.heap.size = w.heap.size + 1 := by rw [hW]; simp
  refine wpList_append_lies W hgd s x 22 ho base 3 i0 (.int .i64 0) 1 8 Try.underlying22 hi0 hz0 hz1 hz2 rfl (by omega) v xs.length (xs.map vI) hs (by rw [hW]; exact World.ownsRow.alloc hown _) ⟨w.heap.size, 0, none⟩ 1 c [.int .i64 a] hx rfl (fun j u hj => by
    obtain rfl : j = 0 := by
      rcases Nat.eq_zero_or_pos j with h0 | h0
      · exact h0
      · rw [List.getElem?_eq_none (by show 1 ≤ j; exact h0)] at hj; cases hj
    simp at hj
    subst hj
    rw [hW]
    exact new_cell w _ _) (fun u hu => by simp at hu; subst hu; rfl) (by omega) (by unfold maxLen; omega) (by omega) (by omega) W.heap.size rfl fun g cap w' h1 h2 h3 h4 => ?_
  refine h _ w' ?_ ⟨by have := h2.size; omega, fun b hb hne => ?_, ?_⟩ (fun b hb => by
    obtain rfl : g = b := by simpa [Value.ownBlock] using hb
    exact h3.imp id fun e => by omega)
  · unfold OwnN
    rw [List.length_append, List.map_append]
    exact h1
  · rw [h2.block b (by omega) (fun e => hne e.symm), hW]
    exact Below.heap_alloc _ _ _ hb
  · rw [hW] at h2
    exact ((Below.refl base w).alloc hbase _).grown h2 (by simp; omega) (fun g hg => (hown.lt hg).1)

/-- the cells of a list, wherever it lies -/
def LieN (w : World) (v : Value) (xs : List Int) : Prop :=
  ∃ A c, v = .slice A xs.length c ∧ xs.length ≤ c ∧ c ≤ 9223372036854775807 ∧ ∀ (k : Nat) (hk : k < xs.length), ∃ b off, A = some ⟨b, off, none⟩ ∧ w.cell? ⟨b, off + k, none⟩ = some (.int .i64 xs[k])
theorem OwnN.lie {w : World} {base : Nat} {v : Value} {xs : List Int} (h : OwnN w base v xs) : LieN w v xs := by
  rcases h.2 with ⟨rfl, h2⟩ | ⟨g, cap, cur, rfl, -, -, h1, h2, -⟩
  · obtain rfl : xs = [] := List.eq_nil_of_length_eq_zero h2
    exact ⟨_, _, rfl, Nat.le_refl _, by omega, fun k hk => absurd hk (by simp)⟩
  · refine ⟨_, cap, rfl, h1, by unfold maxLen at h2; omega, fun k hk => ?_⟩
    obtain ⟨g', e, hc⟩ := h.cell k hk
    cases e
    exact ⟨g, 0, rfl, hc⟩
theorem lit_lie (w : World) (x : Int) : LieN (w.alloc (.cells #[.int .i64 x] 3)) (.slice (some ⟨w.heap.size, 0, none⟩) 1 1) [x] := by
  refine ⟨_, 1, rfl, by simp, by omega, fun k hk => ⟨w.heap.size, 0, rfl, ?_⟩⟩
  obtain rfl : k = 0 := by simpa using hk
  have := new_cell w (.int .i64 x) 3
  rw [add_none] at this
  exact this
theorem OwnN.alloc {w : World} {base : Nat} {v : Value} {xs : List Int} (h : OwnN w base v xs) (o : Obj) : OwnN (w.alloc o) base v xs := World.ownsRow.alloc h o
theorem LieN.drewN {w : World} {v : Value} {xs : List Int} (h : LieN w v xs) (n : Nat) : LieN (w.drewN n) v xs := h

set_option maxRecDepth 100000 in
theorem same_any {w : World} {xs : List Int} {v v' : Value} (h : LieN w v xs) (h' : LieN w v' xs) :
    Calls Try.prog 14 #[v, v'] w fun e w' => e = .returned (.bool true) ∧ ∃ m, w' = w.drewN m := by
  obtain ⟨A, c, rfl, hc, hM, h⟩ := h
  obtain ⟨A', c', rfl, hc', hM', h'⟩ := h'
  obtain ⟨ns, hns⟩ : ∃ ns, ns = xs.length := ⟨_, rfl⟩
  rw [← hns] at hc hc'
  rw [← hns]
  have HX := Lib.hid h
  have HX' := Lib.hid h'
  have HNS := Lib.hid hns
  clear hns h h'
  go_enter Try.func14, Try.ntmps14
  go_wp2
  go_loopw [5] (fun i wr => ∃ k m : Nat, k ≤ ns ∧ i = .int .i64 k ∧ Hid (wr = w.drewN m)) (fun i _ => ns - (intOf i).toNat)
  case atStart => exact ⟨0, 0, Nat.zero_le _, rfl, Lib.hid rfl⟩
  case round =>
    obtain ⟨wo, rfl⟩ : ∃ wo : World, wo = wr := ⟨_, rfl⟩
    obtain ⟨k, m, hk, rfl, HQ⟩ := hrel
    by_cases hlt : k < ns
    · have hke : k < xs.length := by rw [← HNS.out]; exact hlt
      obtain ⟨b, off, rfl, r0⟩ := HX.out k hke
      obtain ⟨b', off', rfl, r0'⟩ := HX'.out k hke
      obtain ⟨x, hx⟩ : ∃ x, x = xs[k] := ⟨_, rfl⟩
      rw [← hx] at r0 r0'
      have k0 : wo.cell? ⟨b, off + k, none⟩ = some (.int .i64 x) := by rw [HQ.out]; exact r0
      have k0' : wo.cell? ⟨b', off' + k, none⟩ = some (.int .i64 x) := by rw [HQ.out]; exact r0'
      clear hx r0 r0'
      clear HX HX'
      go_wp2
      go_quiet (fail)
      generalize hwq : wo.drewN _ = wq
      have HQ2 : ∃ m', Hid (wq = w.drewN m') := ⟨_, Lib.hid (by rw [← hwq, HQ.out, World.drewN_drewN])⟩
      obtain ⟨m', HQ2⟩ := HQ2
      clear hwq
      go_wp2
      go_roundw
      case rel => exact ⟨k + 1, m', by omega, by go_num, HQ2⟩
      case measure => simp [intOf]; omega
    · clear HX HX'
      go_wp2
      go_ret
      exact ⟨rfl, m, HQ.out⟩

end Go.Proofs.Ytadmacplpmahaaa
