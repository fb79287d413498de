/- Ef -/
import Derived.Test.YtbckeljbpknbdaaGreatDoorYd8
import Derived.Test.YtbckeljbpknbdaaGreatDoorYe5
set_option linter.unusedVariables false
set_option linter.unusedSimpArgs false
namespace Go.Proofs.YtbckeljbpknbdaaGreatDoor
open Go.RowKit
theorem prog6_any (s : ByteArray) (hs : s.size ≤ 40000) {ds : List Dc} {p c : Nat} (h : progM s.data.toList = (ds, p, c)) (w : World) : Calls Tryz.prog 9 #[.string s] w fun e w' => ∃ (A : Option Addr) (n m : Nat), e = .returned (.tuple #[.agg #[.slice A n m], .int .i64 p, .int .i64 c]) ∧ DcsIn w' (fun b => w.heap.size ≤ b ∧ b < w'.heap.size) ds (.slice A n m) ∧ Below w.heap.size w w' := by
 refine (program_any s hs w).mono ?_
 rintro e w' ⟨v, rfl, ⟨A, n, m, rfl, ho⟩, hb⟩
 have hd := ho.dcs
 rw [h] at hd ⊢
 exact ⟨A, n, m, rfl, hd, hb⟩
theorem ixV_get {l : List Nat} {k : Nat} (hk : k < l.length) : (ixV l)[k]? = some (.int .i64 (l[k] : Nat)) := by
 unfold ixV
 rw [List.getElem?_map, List.getElem?_eq_getElem hk]; rfl
theorem OwnIx.at {w : World} {base : Nat} {v : Value} {l : List Nat} (h : OwnIx w base v l) : ∃ A c, v = .slice A l.length c ∧ l.length ≤ c ∧ c ≤ 9223372036854775807 ∧ ∀ (k : Nat) (hk : k < l.length), ∃ g, A = some ⟨g, 0, none⟩ ∧ base ≤ g ∧ g < w.heap.size ∧ w.cell? ⟨g, k, none⟩ = some (.int .i64 (l[k] : Nat)) := by
 have hcell : ∀ (g : Nat), v.ownBlock = some g → ∀ (j : Nat) (u : Value), (ixV l)[j]? = some u → w.cell? ⟨g, j, none⟩ = some u := fun g hg j u hu => by
  have := h.cells hg j u hu
  rw [add_pl, Nat.zero_add] at this
  exact this
 rcases h.2 with ⟨rfl, h2⟩ | ⟨g, cap, cur, rfl, hbg, hg, hc1, hc2, _⟩
 · exact ⟨none, 0, by rw [h2], by omega, by omega, fun k hk => absurd hk (by omega)⟩
 · unfold maxLen at hc2
   exact ⟨_, cap, rfl, hc1, by omega, fun k hk => ⟨g, rfl, hbg, lt_of_heap hg, hcell g rfl k _ (ixV_get hk)⟩⟩
theorem OwnLv.at {w : World} {base : Nat} {v : Value} {vs : List Value} {ll : List (List Pr)} (h : OwnLv w base v vs ll) : ∃ A c, v = .slice A ll.length c ∧ ll.length ≤ c ∧ c ≤ 9223372036854775807 ∧ ∀ (k : Nat) (hk : k < ll.length), ∃ g u, A = some ⟨g, 0, none⟩ ∧ base ≤ g ∧ g < w.heap.size ∧ w.cell? ⟨g, k, none⟩ = some u ∧ PrsIn w (fun b => b < w.heap.size) ll[k] u := by
 have hcell : ∀ (g : Nat), v.ownBlock = some g → ∀ (j : Nat) (u : Value), vs[j]? = some u → w.cell? ⟨g, j, none⟩ = some u := fun g hg j u hu => by
  have := h.own.cells hg j u hu
  rw [add_pl, Nat.zero_add] at this
  exact this
 have hl := h.len
 rcases h.own.2 with ⟨rfl, h2⟩ | ⟨g, cap, cur, rfl, hbg, hg, hc1, hc2, _⟩
 · exact ⟨none, 0, by rw [← hl, h2], by omega, by omega, fun k hk => absurd hk (by omega)⟩
 · unfold maxLen at hc2
   refine ⟨_, cap, by rw [hl], by omega, by omega, fun k hk => ⟨g, vs[k]'(by omega), rfl, hbg, lt_of_heap hg, hcell g rfl k _ (List.getElem?_eq_getElem _), ?_⟩⟩
   exact (h.each k (by omega) hk).prs
def IxIn (w : World) (base : Nat) (A : Option Addr) (c : Nat) (l : List Nat) : Prop := l.length ≤ c ∧ c ≤ 9223372036854775807 ∧ ∀ (k : Nat) (hk : k < l.length), ∃ g, A = some ⟨g, 0, none⟩ ∧ base ≤ g ∧ g < w.heap.size ∧ w.cell? ⟨g, k, none⟩ = some (.int .i64 (l[k] : Nat))
def LvIn (w : World) (base : Nat) (A : Option Addr) (c : Nat) (ll : List (List Pr)) : Prop := ll.length ≤ c ∧ c ≤ 9223372036854775807 ∧ ∀ (k : Nat) (hk : k < ll.length), ∃ g u, A = some ⟨g, 0, none⟩ ∧ base ≤ g ∧ g < w.heap.size ∧ w.cell? ⟨g, k, none⟩ = some u ∧ PrsIn w (fun b => b < w.heap.size) ll[k] u
theorem names6_any (w : World) {ds : List Dc} {v : Value} (hin : DcsIn w (· < w.heap.size) ds v) (hkd : ∀ d ∈ ds, 1 ≤ d.kind ∧ d.kind ≤ 8) (hW : dcWs ds ≤ 20480) :
  Calls Tryz.prog 12 #[.agg #[v]] w fun e w' => ∃ (A : Int → Option Addr) (c : Int → Nat) (L : Option Addr) (cL : Nat) (D : Option Addr) (cD : Nat),
   e = .returned (.tuple #[.agg #[.slice (A 1) (listK 1 ds 0).length (c 1), .slice (A 2) (listK 2 ds 0).length (c 2), .slice (A 3) (listK 3 ds 0).length (c 3), .slice (A 4) (listK 4 ds 0).length (c 4), .slice (A 5) (listK 5 ds 0).length (c 5), .slice (A 6) (listK 6 ds 0).length (c 6), .slice (A 7) (listK 7 ds 0).length (c 7), .slice (A 8) (listK 8 ds 0).length (c 8), .slice L (locD ds).length cL], .slice D (ordD (rawD ds)).length cD]) ∧
   (∀ k, 1 ≤ k → k ≤ 8 → IxIn w' w.heap.size (A k) (c k) (listK k ds 0)) ∧ LvIn w' w.heap.size L cL (locD ds) ∧ DgsIn w' w.heap.size (.slice D (ordD (rawD ds)).length cD) (ordD (rawD ds)) ∧ Below w.heap.size w w' := by
 refine (names_any orders_any w hin hkd hW).mono ?_
 rintro e w' ⟨x, dv, base, rfl, hbase, htb, hdg, hb⟩
 have hx : ∀ k : Int, 1 ≤ k → k ≤ 8 → ∃ A c, tOf x k = .slice A (listK k ds 0).length c ∧ IxIn w' w.heap.size A c (listK k ds 0) := fun k h1 h8 => by
  obtain ⟨A, c, e, h2, h3, h4⟩ := (htb.ix k h1 h8).at
  exact ⟨A, c, e, h2, h3, fun j hj => by obtain ⟨g, q1, q2, q3, q4⟩ := h4 j hj; exact ⟨g, q1, by omega, q3, q4⟩⟩
 have hx2 : ∀ k : Int, ∃ y : Option Addr × Nat, 1 ≤ k → k ≤ 8 → tOf x k = .slice y.1 (listK k ds 0).length y.2 ∧ IxIn w' w.heap.size y.1 y.2 (listK k ds 0) := fun k => by
  by_cases h : 1 ≤ k ∧ k ≤ 8
  · obtain ⟨A, c, e, h2⟩ := hx k h.1 h.2
    exact ⟨(A, c), fun _ _ => ⟨e, h2⟩⟩
  · exact ⟨(none, 0), fun a b => absurd ⟨a, b⟩ h⟩
 obtain ⟨y, hy⟩ := Classical.axiomOfChoice hx2
 obtain ⟨vs, hv⟩ := htb.lv
 obtain ⟨L, cL, eL, l2, l3, l4⟩ := hv.at
 obtain ⟨D, cD, eD, d2, d3, d4⟩ := hdg
 refine ⟨fun k => (y k).1, fun k => (y k).2, L, cL, D, cD, ?_, fun k h1 h8 => (hy k h1 h8).2, ⟨l2, l3, fun k hk => by obtain ⟨g, u, q1, q2, q3, q4⟩ := l4 k hk; exact ⟨g, u, q1, by omega, q3, q4⟩⟩, ⟨D, cD, rfl, d2, d3, fun k hk => by obtain ⟨g, off, q1, q2, q3⟩ := d4 k hk; exact ⟨g, off, q1, by omega, q3⟩⟩, hb⟩
 have e1 : x.t1 = _ := (hy 1 (by decide) (by decide)).1
 have e2 : x.t2 = _ := (hy 2 (by decide) (by decide)).1
 have e3 : x.t3 = _ := (hy 3 (by decide) (by decide)).1
 have e4 : x.t4 = _ := (hy 4 (by decide) (by decide)).1
 have e5 : x.t5 = _ := (hy 5 (by decide) (by decide)).1
 have e6 : x.t6 = _ := (hy 6 (by decide) (by decide)).1
 have e7 : x.t7 = _ := (hy 7 (by decide) (by decide)).1
 have e8 : x.t8 = _ := (hy 8 (by decide) (by decide)).1
 rw [e1, e2, e3, e4, e5, e6, e7, e8, eL, eD]
theorem prog_names {s : List UInt8} {ds : List Dc} {p c : Nat} (h : progM s = (ds, p, c)) (P : List UInt8 → Prop) (hP : ∀ x, x ≠ [] → Within x s → P x) : dcWs ds ≤ 20480 ∧ ∀ d ∈ ds, okD s.length P d := by
 by_cases hd : ds = []
 · subst hd
   exact ⟨by simp [dcWs], fun d hd => by cases hd⟩
 · have e : p = 0 ∧ c = 0 := by
    have h' := h
    unfold progM at h'
    cases ht : toks s with
    | err q e =>
      rw [ht] at h'
      have h2 : (([] : List Dc), q, e) = (ds, p, c) := h'
      injection h2 with h3
      exact absurd h3.symm hd
    | ok us =>
      rw [ht] at h'
      cases hr : programM s.length us with
      | bad q e =>
        have h2 : (match programM s.length us with | .bad p c => (([] : List Dc), p, c) | .ok ds _ => (ds, 0, 0)) = (ds, p, c) := h'
        rw [hr] at h2
        have h3 : (([] : List Dc), q, e) = (ds, p, c) := h2
        injection h3 with h4
        exact absurd h4.symm hd
      | ok ds2 r =>
        have h2 : (match programM s.length us with | .bad p c => (([] : List Dc), p, c) | .ok ds _ => (ds, 0, 0)) = (ds, p, c) := h'
        rw [hr] at h2
        have h3 : (ds2, 0, 0) = (ds, p, c) := h2
        injection h3 with h4 h5
        injection h5 with h6 h7
        exact ⟨h6.symm, h7.symm⟩
   obtain ⟨rfl, rfl⟩ := e
   obtain ⟨h1, h2, h3⟩ := prog_ok_names h P hP
   exact ⟨by omega, h3⟩
theorem read6 {s : List UInt8} {ds : List Dc} {p c : Nat} (h : progM s = (ds, p, c)) : (∀ d ∈ ds, 1 ≤ d.kind ∧ d.kind ≤ 8) ∧ dcWs ds ≤ 20480 := by
 obtain ⟨h2, h3⟩ := prog_names h (fun _ => True) fun _ _ _ => trivial
 exact ⟨fun d hd => ⟨(h3 d hd).2.2.1, (h3 d hd).2.2.2.1⟩, h2⟩
def alF : List UInt8 := [115, 105, 110, 107, 32, 115, 32, 59, 32, 116, 104, 114, 101, 97, 100, 32, 116, 32, 123, 32, 118, 97, 114, 32, 120, 32, 105, 110, 116, 32, 61, 32, 49, 32, 59, 32, 111, 117, 116, 32, 115, 32, 121, 32, 59, 32, 125]
theorem al6_ok : (progM alF).2 = (0, 0) := by kernel_rfl
theorem al6_k : listK 8 (progM alF).1 0 = [1] := by kernel_rfl
theorem al6_l : (locD (progM alF).1).map List.length = [1] := by kernel_rfl
theorem al6_r : rawD (progM alF).1 = [⟨42, 41, [121]⟩] := by kernel_rfl
theorem al6_t : findI (progM alF).1 [116] = 1 := by kernel_rfl
theorem al6_q : findI (progM alF).1 [113] = -1 := by kernel_rfl
theorem al6_o : ordD (rawD (progM alF).1) = [⟨42, 41, [121]⟩] := by rw [al6_r]; simp [ordD, compactL]
theorem map_one6 {α β : Type} {f : α → β} {y : β} : ∀ {l : List α}, l.map f = [y] → ∃ a, l = [a] ∧ f a = y
 | [], h => nomatch h
 | [a], h => ⟨a, rfl, (List.cons.inj h).1⟩
 | _ :: _ :: _, h => nomatch (List.cons.inj h).2
theorem al6_first (w : World) : Calls Tryz.prog 9 #[.string ⟨alF.toArray⟩] w fun e w' => ∃ (A : Option Addr) (n m : Nat), e = .returned (.tuple #[.agg #[.slice A n m], .int .i64 0, .int .i64 0]) ∧ DcsIn w' (fun b => w.heap.size ≤ b ∧ b < w'.heap.size) (progM alF).1 (.slice A n m) ∧ Below w.heap.size w w' := by
 have he : (⟨alF.toArray⟩ : ByteArray).data.toList = alF := rfl
 have hp : progM (⟨alF.toArray⟩ : ByteArray).data.toList = ((progM alF).1, 0, 0) := by rw [he]; exact Prod.ext rfl al6_ok
 refine (prog6_any ⟨alF.toArray⟩ (by decide) hp w).mono ?_
 rintro e w' ⟨A, n, m, rfl, hd, hb⟩
 exact ⟨A, n, m, rfl, hd, hb⟩
set_option maxRecDepth 100000 in
set_option maxHeartbeats 4000000 in
theorem alive6_any (w : World) : Calls Tryz.prog 8 #[] w fun e w' => e = .returned (.bool true) ∧ Below w.heap.size w w' := by
 obtain ⟨hkd, hW⟩ := read6 (show progM alF = ((progM alF).1, 0, 0) from Prod.ext rfl al6_ok)
 have h1 := al6_first
 have hk := al6_k
 have hl := al6_l
 have ho := al6_o
 have ht := al6_t
 have hq := al6_q
 generalize (progM alF).1 = ds at hkd hW h1 hk hl ho ht hq
 obtain ⟨pl, hl1, hl2⟩ := map_one6 hl
 have HK := Lib.hid hk
 have HL := Lib.hid hl1
 have HP := Lib.hid hl2
 have HO := Lib.hid ho
 have HT := Lib.hid ht
 have HQ := Lib.hid hq
 have HKD := Lib.hid hkd
 have HW := Lib.hid hW
 have H1 := Lib.hid h1
 clear hk hl hl1 hl2 ho ht hq hkd hW h1
 go_enter Tryz.func8, Tryz.ntmps8
 go_wp2_with fail
 refine (H1.out w).mono ?_
 rintro e w1 ⟨A, n, m, rfl, hd, hb1⟩
 have HB1 := Lib.hid hb1
 have HD := Lib.hid hd
 clear hb1 hd
 go_wp2_with fail
 obtain ⟨X, hX⟩ : ∃ X, X = w1.alloc (.cells #[.slice A n m] 25) := ⟨_, rfl⟩
 obtain ⟨g, hg⟩ : ∃ g, g = w1.heap.size := ⟨_, rfl⟩
 have hbX : Below w1.heap.size w1 X := by rw [hX]; exact below_new _ _
 have r0 : X.heap[g]? = some (.cells #[.slice A n m] 25 (0, 0)) := by rw [hX, hg]; exact heap_alloc_new _ _
 have hsX : X.heap.size = g + 1 := by rw [hX, hg]; simp
 rw [← hX, ← hg]
 have hinX : DcsIn X (· < X.heap.size) ds (.slice A n m) := HD.out.keep (fun b hb => hbX.block b hb.2) (fun b hb => by show b < X.heap.size; omega)
 clear hX
 refine (names6_any X hinX HKD.out HW.out).mono ?_
 rintro e w2 ⟨Af, cf, L, cL, D, cD, rfl, hix, hlv, hdg, hb2⟩
 have hb12 := hbX.trans (hb2.mono hbX.size)
 have r2 := (hb2.block g (by omega)).trans r0
 have hin2 : DcsIn w2 (· < w2.heap.size) ds (.slice A n m) := hinX.keep (fun b hb => hb2.block b hb) (fun b hb => Nat.lt_of_lt_of_le hb hb2.size)
 have h8 := hix 8 (by decide) (by decide)
 rw [HK.out] at h8 ⊢
 rw [HL.out] at hlv ⊢
 rw [HO.out] at hdg ⊢
 obtain ⟨z8a, z8b, h8⟩ := h8
 obtain ⟨g8, e8, -, l8, c8⟩ := h8 0 (by simp)
 obtain ⟨zLa, zLb, hlv⟩ := hlv
 obtain ⟨gL, u, eL, -, lL, cLu, hpr⟩ := hlv 0 (by simp)
 obtain ⟨pA, pc, eu, hpc, hpc2, -⟩ := hpr
 simp only [List.getElem_cons_zero] at c8 eu hpc
 rw [HP.out] at eu hpc
 obtain ⟨D', cD', eD, zDa, zDb, hdc⟩ := hdg
 cases eD
 obtain ⟨gD, offD, eD2, -, lD, d0, d1, d2⟩ := hdc 0 (by simp)
 simp only [List.getElem_cons_zero, Nat.zero_mul, Nat.add_zero] at d0 d1 d2
 have hft : ∀ V : World, Below w2.heap.size w2 V → Calls Tryz.prog 10 #[.agg #[.slice A n m], .string ⟨#[116]⟩] V fun e w' => e = .returned (.int .i64 1) ∧ Below V.heap.size V w' := fun V hV => by
  have := find_any V (hin2.keep (fun b hb => hV.block b hb) (fun b hb => Nat.lt_of_lt_of_le hb hV.size)) [116]
  rw [HT.out] at this
  exact this
 have hfq : ∀ V : World, Below w2.heap.size w2 V → Calls Tryz.prog 10 #[.agg #[.slice A n m], .string ⟨#[113]⟩] V fun e w' => e = .returned (.int .i64 (-1)) ∧ Below V.heap.size V w' := fun V hV => by
  have := find_any V (hin2.keep (fun b hb => hV.block b hb) (fun b hb => Nat.lt_of_lt_of_le hb hV.size)) [113]
  rw [HQ.out] at this
  exact this
 have q0 : w2.cell? ⟨g, 0, none⟩ = some (.slice A n m) := by rw [cell_of_row w2 g 0 _ _ (0, 0) r2]; rfl
 have lg : g < w2.heap.size := lt_of_heap r2
 have d2' : w2.cell? ⟨gD, offD + 2, none⟩ = some (.string ⟨#[121]⟩) := d2
 clear d2
 have HFT := Lib.hid hft
 have HFQ := Lib.hid hfq
 have HB2 := Lib.hid (HB1.out.trans (hb12.mono HB1.out.size))
 rw [e8, eL, eD2]
 subst eu
 clear hft hfq hix hlv hdc hb2 hb12 hbX r0 r2 hinX hin2 e8 eL eD2 h8 hsX hg HD HB1
 generalize (listK 1 ds 0).length = n1
 generalize (listK 2 ds 0).length = n2
 generalize (listK 3 ds 0).length = n3
 generalize (listK 4 ds 0).length = n4
 generalize (listK 5 ds 0).length = n5
 generalize (listK 6 ds 0).length = n6
 generalize (listK 7 ds 0).length = n7
 go_wp2_with (first
  | (go_at_call 10; (with_reducible refine (HFT.out _ (below_new _ _)).mono ?_); rintro e w3 ⟨rfl, hb3⟩; have HB3 := Lib.hid ((below_new w2 _).trans (hb3.mono (below_new w2 _).size)); have q3 : w3.cell? ⟨g, 0, none⟩ = some (.slice A n m) := (HB3.out.cell (p := ⟨g, 0, none⟩) lg).trans q0; clear hb3)
  | (go_at_call 10; (with_reducible refine (HFQ.out _ HB3.out).mono ?_); rintro e w4 ⟨rfl, hb4⟩; have HB4 := Lib.hid (HB3.out.trans (hb4.mono HB3.out.size)); clear hb4))
 go_ret
 exact ⟨rfl, HB2.out.trans (HB4.out.mono HB2.out.size)⟩
end Go.Proofs.YtbckeljbpknbdaaGreatDoor
