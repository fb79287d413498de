/- The walk of CopyCode. -/
import Derived.Test.YtgohnlcgidmlfaaDoorMdg
import Derived.Test.YtgohnlcgidmlfaaDoorMdn
set_option linter.unusedVariables false
set_option linter.unusedSimpArgs false
namespace Go.Proofs.YtgohnlcgidmlfaaDoor
open Go.RowKit

theorem info_op : (Tryd.prog.info? 42).map (fun i => (i.zero, i.size, i.bytes)) = some (some (.agg #[.int .i64 0, .int .i64 0, .int .i64 0, .int .i64 0, .int .i64 0, .int .i64 0, .int .i64 0, .int .i64 0, .slice none 0 0, .int .i64 0, .int .i64 0, .int .i64 0]), 12, 112) := by kernel_rfl

/-- block g is an operation -/
def OpBlk (w : World) (g : Nat) (o : Opx) (v : Value) : Prop := w.heap[g]? = some (.cells (opRow o v).toArray 42 (0, 0))
section
variable {w w' : World} {g B : Nat} {o : Opx} {v : Value}
theorem OpBlk.new (w : World) (o : Opx) (v : Value) : OpBlk (w.alloc (.cells (opRow o v).toArray 42)) w.heap.size o v := heap_alloc_new w _
theorem OpBlk.below (h : OpBlk w g o v) (hb : Below B w w') (hg : g < B) : OpBlk w' g o v := (hb.block g hg).trans h
theorem OpBlk.at_ (h : OpBlk w g o v) : OpAt w g 0 o v := by
  have hc : ∀ j, w.cell? ⟨g, j, none⟩ = (opRow o v)[j]? := fun j => by rw [cell_of_row w g j _ _ (0, 0) h]; simp
  exact ⟨hc 0, hc 1, hc 2, hc 3, hc 4, hc 5, hc 6, hc 7, hc 8, hc 9, hc 10, hc 11⟩
theorem OpBlk.all (h : OpBlk w g o v) : w.cell? ⟨g, 0, none⟩ = some (.int .i64 o.kind) ∧ w.cell? ⟨g, 1, none⟩ = some (.int .i64 o.a) ∧ w.cell? ⟨g, 2, none⟩ = some (.int .i64 o.b) ∧ w.cell? ⟨g, 3, none⟩ = some (.int .i64 o.c) ∧ w.cell? ⟨g, 4, none⟩ = some (.int .i64 o.d) ∧ w.cell? ⟨g, 5, none⟩ = some (.int .i64 o.e) ∧
    w.cell? ⟨g, 6, none⟩ = some (.int .i64 o.f) ∧ w.cell? ⟨g, 7, none⟩ = some (.int .i64 o.k) ∧ w.cell? ⟨g, 8, none⟩ = some v ∧ w.cell? ⟨g, 9, none⟩ = some (.int .i64 o.next) ∧ w.cell? ⟨g, 10, none⟩ = some (.int .i64 o.els) ∧ w.cell? ⟨g, 11, none⟩ = some (.int .i64 o.pl) := by
  have hc : ∀ j, w.cell? ⟨g, j, none⟩ = (opRow o v)[j]? := fun j => by rw [cell_of_row w g j _ _ (0, 0) h]; simp
  exact ⟨hc 0, hc 1, hc 2, hc 3, hc 4, hc 5, hc 6, hc 7, hc 8, hc 9, hc 10, hc 11⟩
theorem OpBlk.fr (h : OpBlk w g o v) (j : Nat) : w.frozen? ⟨g, j, none⟩ = false := frozen_of_row w g j _ _ h
theorem OpBlk.set8 (h : OpBlk w g o v) (x : Value) : OpBlk (w.setCell ⟨g, 8, none⟩ x) g o x := by
  unfold OpBlk at h ⊢
  simp [World.setCell, Array.getElem?_modify, h, opRow]
end
theorem opRow_arr (o : Opx) (v : Value) : (opRow o v).toArray = #[.int .i64 o.kind, .int .i64 o.a, .int .i64 o.b, .int .i64 o.c, .int .i64 o.d, .int .i64 o.e, .int .i64 o.f, .int .i64 o.k, v, .int .i64 o.next, .int .i64 o.els, .int .i64 o.pl] := rfl
theorem OpAt.keep {w w' : World} {b p : Nat} {o : Opx} {v : Value} (h : OpAt w b p o v) (hw : w'.heap[b]? = w.heap[b]?) : OpAt w' b p o v := by
  have hc : ∀ j, w'.cell? ⟨b, j, none⟩ = w.cell? ⟨b, j, none⟩ := fun j => World.cell?_of_block hw
  obtain ⟨c0, c1, c2, c3, c4, c5, c6, c7, c8, c9, c10, c11⟩ := h
  exact ⟨by rw [hc]; exact c0, by rw [hc]; exact c1, by rw [hc]; exact c2, by rw [hc]; exact c3, by rw [hc]; exact c4, by rw [hc]; exact c5, by rw [hc]; exact c6, by rw [hc]; exact c7, by rw [hc]; exact c8, by rw [hc]; exact c9, by rw [hc]; exact c10, by rw [hc]; exact c11⟩

/-- operations that a call has made anew, each apart -/
def NewC (w : World) (xs : List Opx) (e : Ending) (w' : World) : Prop := ∃ (v : Value) (ts : List OpT), e = .returned v ∧ OwnH KOt 42 w' w.heap.size w'.heap.size ts v ∧ ts.map OpT.op = xs ∧ ApO ts ∧ Below w.heap.size w w'
theorem apO_more {T : List OpT} {t : OpT} {n : Nat} (h : ApO T) (hn : ∀ a ∈ T, a.hi ≤ n) (ht : n ≤ t.lo) : ApO (T ++ [t]) := by
  unfold ApO at h ⊢
  rw [List.pairwise_append]
  refine ⟨h, by simp, fun a ha b hb => ?_⟩
  simp only [List.mem_singleton] at hb
  subst hb
  exact Nat.le_trans (hn a ha) ht

set_option maxHeartbeats 4000000 in
set_option maxRecDepth 100000 in
theorem copyCode_any {w : World} {S : Nat → Prop} {xs : List Opx} {v : Value} (h : Lies KO w S xs v) (hn : xs.length ≤ 1000000) (ha : ∀ x ∈ xs, x.args.length ≤ 1000000) (hS : ∀ b, S b → b < w.heap.size) :
    Calls Tryd.prog 26 #[v] w (NewC w xs) := by
  obtain ⟨A, c, rfl, hc, hM⟩ := h.form
  obtain ⟨ns, hns⟩ : ∃ ns, ns = xs.length := ⟨_, rfl⟩
  rw [← hns] at hc hn h hM ⊢
  have HX := Lib.hid h
  have HNS := Lib.hid hns
  have HA := Lib.hid ha
  have HS := Lib.hid hS
  clear hns h ha hS
  go_enter Tryd.func26, Tryd.ntmps26
  go_wp2
  obtain ⟨g, hg⟩ : ∃ g, g = w.heap.size := ⟨_, rfl⟩
  have hx0 : OwnL KOt 42 (w.alloc (.cells #[] 42)) g [] (.slice (some ⟨g, 0, none⟩) 0 0) := by rw [hg]; exact OwnL.lit (E := KOt) 42 w
  have hxb : Below g w (w.alloc (.cells #[] 42)) := by rw [hg]; exact (Below.refl _ w).alloc (Nat.le_refl _) _
  have hxs : g < (w.alloc (.cells #[] 42)).heap.size := by rw [hg]; simp
  rw [← hg]
  have HX0 := Lib.hid hx0
  have HXB := Lib.hid hxb
  have HXS := Lib.hid hxs
  have HG := Lib.hid hg
  clear hx0 hxb hxs hg
  go_loopw [3, 4] (fun u i wr => ∃ (j : Nat) (T : List OpT), j ≤ ns ∧ i = .int .i64 j ∧ Hid (OwnL KOt 42 wr g T u) ∧ Hid (T.map OpT.op = xs.take j ∧ ApO T ∧ ∀ t ∈ T, t.hi ≤ wr.heap.size) ∧ Hid (Below g w wr) ∧ g < wr.heap.size) (fun _ i _ => ns - (intOf i).toNat)
  case atStart => exact ⟨0, [], Nat.zero_le _, rfl, HX0, Lib.hid ⟨rfl, List.Pairwise.nil, by simp⟩, HXB, HXS.out⟩
  case round =>
    obtain ⟨wo, rfl⟩ : ∃ wo : World, wo = wr := ⟨_, rfl⟩
    obtain ⟨j, T, hj, rfl, HO, HT3, HBL, hws⟩ := hrel
    by_cases hlt : j < ns
    · have hje : j < xs.length := by rw [← HNS.out]; exact hlt
      obtain ⟨b, off, vv, rfl, hbS, hat, hargs, hin⟩ := HX.out.op j hje
      have hbg : b < g := by rw [HG.out]; exact HS.out b hbS
      have hlen := HA.out _ (List.getElem_mem hje)
      have htk : xs.take (j + 1) = xs.take j ++ [xs[j]] := by rw [List.take_add_one, List.getElem?_eq_getElem hje, Option.toList_some]
      have htl : T.length ≤ 1000000 := by
        have h1 := congrArg List.length HT3.out.1
        rw [List.length_map, List.length_take] at h1
        omega
      rw [← HT3.out.1] at htk
      obtain ⟨Y, hY⟩ : ∃ Y, Y = xs[j] := ⟨_, rfl⟩
      rw [← hY] at hat hargs hin hlen htk
      obtain ⟨A5, c5, rfl, l5, b5⟩ := hargs.form
      obtain ⟨n5, hn5⟩ : ∃ n, n = Y.args.length := ⟨_, rfl⟩
      rw [← hn5] at hat hargs l5 b5
      have hat' := hat.keep (HBL.out.block b hbg)
      obtain ⟨r0, r1, r2, r3, r4, r5, r6, r7, r8, r9, r10, r11⟩ := hat'
      obtain ⟨X1, hX1⟩ : ∃ X1 : World, X1 = wo.alloc (.cells #[.int .i64 Y.kind, .int .i64 Y.a, .int .i64 Y.b, .int .i64 Y.c, .int .i64 Y.d, .int .i64 Y.e, .int .i64 Y.f, .int .i64 Y.k, .slice A5 n5 c5, .int .i64 Y.next, .int .i64 Y.els, .int .i64 Y.pl] 42) := ⟨_, rfl⟩
      have hx1 : OpBlk X1 wo.heap.size Y (.slice A5 n5 c5) := by rw [hX1]; exact OpBlk.new wo Y _
      have hx1s : X1.heap.size = wo.heap.size + 1 := by rw [hX1]; simp
      have hx1b : Below wo.heap.size wo X1 := by rw [hX1]; exact (Below.refl _ wo).alloc (Nat.le_refl _) _
      have hgb : ∀ b, S b → X1.heap[b]? = w.heap[b]? := fun b hb => by
        have h1 := HS.out b hb
        rw [← HG.out] at h1
        exact (hx1b.block b (by omega)).trans (HBL.out.block b h1)
      have hcall := copyInts_any (hargs.keep hgb (fun _ h => h)) hlen (fun b hb => by have := HS.out b hb; rw [← HG.out] at this; omega)
      have HX1E := Lib.hid hX1
      have HX1 := Lib.hid hx1
      have HX1S := Lib.hid hx1s
      have HX1B := Lib.hid hx1b
      have HCALL := Lib.hid hcall
      have HTK := Lib.hid htk
      have HIN := Lib.hid hin
      have HN5 := Lib.hid hn5
      clear hX1 hx1 hx1s hx1b hcall htk hin hat hargs hgb hn5 hY
      go_wp2_with fail
      rw [← HX1E.out]
      refine HCALL.out.mono ?_
      rintro e w5 ⟨v5, rfl, ho5, hb5⟩
      obtain ⟨A6, c6, rfl, -⟩ := ho5.lies.form
      obtain ⟨n6, hn6⟩ : ∃ n, n = Y.args.length := ⟨_, rfl⟩
      rw [← hn6] at ho5 ⊢
      have hs1 := HX1S.out
      have hs5 := hb5.size
      have e5 := HX1.out.below hb5 (by omega)
      obtain ⟨q0, q1, q2, q3, q4, q5, q6, q7, q8, q9, q10, q11⟩ := e5.all
      have f8 := e5.fr 8
      obtain ⟨X6, hX6⟩ : ∃ X6 : World, X6 = w5.setCell ⟨wo.heap.size, 8, none⟩ (.slice A6 n6 c6) := ⟨_, rfl⟩
      have e6 : OpBlk X6 wo.heap.size Y (.slice A6 n6 c6) := by rw [hX6]; exact e5.set8 _
      have hx6s : X6.heap.size = w5.heap.size := by rw [hX6]; simp
      have hx6k : ∀ b, b ≠ wo.heap.size → X6.heap[b]? = w5.heap[b]? := fun b hb => by rw [hX6]; exact Below.heap_setCell _ _ _ b hb
      have hw5 : Below wo.heap.size wo w5 := HX1B.out.trans (hb5.mono (by omega))
      have hw6 : Below wo.heap.size wo X6 := by rw [hX6]; exact hw5.setCell (Nat.le_refl _) _
      obtain ⟨X7, hX7⟩ : ∃ X7 : World, X7 = X6.alloc (.cells #[.int .i64 Y.kind, .int .i64 Y.a, .int .i64 Y.b, .int .i64 Y.c, .int .i64 Y.d, .int .i64 Y.e, .int .i64 Y.f, .int .i64 Y.k, .slice A6 n6 c6, .int .i64 Y.next, .int .i64 Y.els, .int .i64 Y.pl] 42) := ⟨_, rfl⟩
      have hx7s : X7.heap.size = w5.heap.size + 1 := by rw [hX7]; simp [hx6s]
      have hx67 : Below X6.heap.size X6 X7 := by rw [hX7]; exact (Below.refl _ _).alloc (Nat.le_refl _) _
      have hx7 : Below wo.heap.size wo X7 := hw6.trans (hx67.mono (by omega))
      have hk7 : ∀ b, wo.heap.size + 1 ≤ b ∧ b < w5.heap.size → X7.heap[b]? = w5.heap[b]? := fun b hb => (hx67.block b (by omega)).trans (hx6k b (by omega))
      have ho7 : OwnL KOt 42 X7 g T u3 := HO.out.below hx7
      have hnew : ∀ q y, (opRow Y (.slice A6 n6 c6))[q]? = some y → X7.cell? ((⟨w5.heap.size, 0, none⟩ : Addr).add q) = some y := fun q y hq => by
        rw [hX7, ← hx6s, add_none, Nat.zero_add, cell_of_row _ _ q _ _ (0, 0) (heap_alloc_new X6 _)]
        rw [← hq, ← opRow_arr]
        simp
      have hun : KOt.Q X7 (fun b => g ≤ b ∧ b < X7.heap.size ∧ u3.ownBlock ≠ some b) ⟨Y, wo.heap.size + 1, w5.heap.size⟩ (opRow Y (.slice A6 n6 c6)) := by
        refine ⟨_, rfl, ?_, fun b hb hb2 => ?_, HIN.out⟩
        · have h1 := ho5.h
          rw [HX1S.out] at h1
          exact h1.keep (fun b hb hb2 => hk7 b ⟨hb, hb2⟩)
        · dsimp only at hb hb2
          refine ⟨by omega, by omega, fun e => ?_⟩
          have := (HO.out.lt e).2
          omega
      have hlen6 := htl
      have hg7 : g < X7.heap.size := by omega
      have hw7s : w5.heap.size ≤ X7.heap.size ∧ wo.heap.size ≤ X7.heap.size := by omega
      obtain ⟨A3, c3, rfl, -⟩ := HO.out.lies.form
      rw [hX7, hX6] at ho7 hnew hun hx7 hg7 hw7s
      have HO7 := Lib.hid ho7
      have HNEW := Lib.hid hnew
      have HUN := Lib.hid hun
      have HX7 := Lib.hid hx7
      have HLEN6 := Lib.hid hlen6
      have HG7 := Lib.hid hg7
      have HW7S := Lib.hid hw7s
      clear r0 r1 r2 r3 r4 r5 r6 r7 r8 r9 r10 r11 e6 e5 hx6s hx6k hw5 hw6 hx67 hx7 hk7 ho7 hnew hun hlen6 hg7 hw7s ho5 hb5 hn6 hx7s hX7 X7 hX6 X6
      go_wp2_with (first
        | (at_builtin; go_loud (refine wpList_append_one (E := KOt) rfl _ _ _ _ rfl Tryd.underlying37 _ _ info_op rfl (by decide) g T _ rfl HO7.out HLEN6.out ⟨w5.heap.size, 0, none⟩ 1 ⟨Y, wo.heap.size + 1, w5.heap.size⟩ (opRow Y (.slice A6 n6 c6)) rfl HNEW.out HUN.out (Nat.le_of_lt HG7.out) ?_; go_loud (intro v8 w8 ho8 hb8; obtain ⟨A8, c8, rfl, -⟩ := ho8.lies.form))))
      go_roundw
      case rel =>
        rw [List.length_append] at ho8
        exact ⟨j + 1, T ++ [⟨Y, wo.heap.size + 1, w5.heap.size⟩], by omega, by go_num, Lib.hid ho8, Lib.hid ⟨by rw [HTK.out, List.map_append]; rfl, apO_more HT3.out.2.1 HT3.out.2.2 (by show wo.heap.size ≤ wo.heap.size + 1; omega), fun t ht => by
          have h8 := hb8.size
          have h9 := HW7S.out
          rcases List.mem_append.1 ht with ht | ht
          · have h0 := HT3.out.2.2 t ht
            omega
          · simp only [List.mem_singleton] at ht
            subst ht
            show w5.heap.size ≤ _
            omega⟩, Lib.hid (HBL.out.trans ((HX7.out.mono (by omega)).trans hb8)), Nat.lt_of_lt_of_le HG7.out hb8.size⟩
      case measure => simp [intOf]; omega
    · have hall : xs.take j = xs := List.take_of_length_le (by rw [← HNS.out]; omega)
      have HT4 := Lib.hid (HT3.out.1.trans hall)
      obtain ⟨A3, c3, rfl, -⟩ := HO.out.lies.form
      have hnl : T.length = ns := by rw [HNS.out, ← HT4.out, List.length_map]
      clear hall HX
      go_wp2
      go_ret
      exact ⟨_, T, rfl, by rw [← HG.out]; exact HO.out.h, HT4.out, HT3.out.2.1, by rw [← HG.out]; exact HBL.out⟩

end Go.Proofs.YtgohnlcgidmlfaaDoor
