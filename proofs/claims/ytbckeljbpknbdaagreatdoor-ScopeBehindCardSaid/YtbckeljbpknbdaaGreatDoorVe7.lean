/- Ef Es Eu -/
import Derived.Test.YtbckeljbpknbdaaGreatDoorVd8
import Derived.Test.YtbckeljbpknbdaaGreatDoorVe6
set_option linter.unusedVariables false
set_option linter.unusedSimpArgs false
namespace Go.Proofs.YtbckeljbpknbdaaGreatDoor
open Go.RowKit
theorem Xof (s : ByteArray) (hs : s.size ≤ 40000) {ds : List Dc} {p c : Nat} (h : Xco s.data.toList = (ds, p, c)) (w : World) : Calls Tryz.prog 9 #[.string s] w fun e w' => ∃ (A : Option Addr) (n m : Nat), e = .returned (.tuple #[.agg #[.slice A n m], .int .i64 p, .int .i64 c]) ∧ Xfs w' (fun b => w.heap.size ≤ b ∧ b < w'.heap.size) ds (.slice A n m) ∧ Below w.heap.size w w' := by
 refine (Xwi s hs w).mono ?_
 rintro e w' ⟨v, rfl, ⟨A, n, m, rfl, ho⟩, hb⟩
 have hd := ho.dcs
 rw [h] at hd ⊢
 exact ⟨A, n, m, rfl, hd, hb⟩
theorem ixV_get {l : List Nat} {k : Nat} (hk : k < l.length) : (ixV l)[k]? = some (.int .i64 (l[k] : Nat)) := by
 unfold ixV
 rw [List.getElem?_map, List.getElem?_eq_getElem hk]; rfl
theorem Xuo.at {w : World} {base : Nat} {v : Value} {l : List Nat} (h : Xuo w base v l) : ∃ A c, v = .slice A l.length c ∧ l.length ≤ c ∧ c ≤ 9223372036854775807 ∧ ∀ (k : Nat) (hk : k < l.length), ∃ g, A = some ⟨g, 0, none⟩ ∧ base ≤ g ∧ g < w.heap.size ∧ w.cell? ⟨g, k, none⟩ = some (.int .i64 (l[k] : Nat)) := by
 have hcell : ∀ (g : Nat), v.ownBlock = some g → ∀ (j : Nat) (u : Value), (ixV l)[j]? = some u → w.cell? ⟨g, j, none⟩ = some u := fun g hg j u hu => by
  have := h.cells hg j u hu
  rw [Xdo, Nat.zero_add] at this
  exact this
 rcases h.2 with ⟨rfl, h2⟩ | ⟨g, cap, cur, rfl, hbg, hg, hc1, hc2, _⟩
 · exact ⟨none, 0, by rw [h2], by omega, by omega, fun k hk => absurd hk (by omega)⟩
 · unfold maxLen at hc2
   exact ⟨_, cap, rfl, hc1, by omega, fun k hk => ⟨g, rfl, hbg, Xac hg, hcell g rfl k _ (ixV_get hk)⟩⟩
theorem Xmb.at {w : World} {base : Nat} {v : Value} {vs : List Value} {ll : List (List Pr)} (h : Xmb w base v vs ll) : ∃ A c, v = .slice A ll.length c ∧ ll.length ≤ c ∧ c ≤ 9223372036854775807 ∧ ∀ (k : Nat) (hk : k < ll.length), ∃ g u, A = some ⟨g, 0, none⟩ ∧ base ≤ g ∧ g < w.heap.size ∧ w.cell? ⟨g, k, none⟩ = some u ∧ Xca w (fun b => b < w.heap.size) ll[k] u := by
 have hcell : ∀ (g : Nat), v.ownBlock = some g → ∀ (j : Nat) (u : Value), vs[j]? = some u → w.cell? ⟨g, j, none⟩ = some u := fun g hg j u hu => by
  have := h.own.cells hg j u hu
  rw [Xdo, Nat.zero_add] at this
  exact this
 have hl := h.len
 rcases h.own.2 with ⟨rfl, h2⟩ | ⟨g, cap, cur, rfl, hbg, hg, hc1, hc2, _⟩
 · exact ⟨none, 0, by rw [← hl, h2], by omega, by omega, fun k hk => absurd hk (by omega)⟩
 · unfold maxLen at hc2
   refine ⟨_, cap, by rw [hl], by omega, by omega, fun k hk => ⟨g, vs[k]'(by omega), rfl, hbg, Xac hg, hcell g rfl k _ (List.getElem?_eq_getElem _), ?_⟩⟩
   exact (h.each k (by omega) hk).prs
def IxIn (w : World) (base : Nat) (A : Option Addr) (c : Nat) (l : List Nat) : Prop := l.length ≤ c ∧ c ≤ 9223372036854775807 ∧ ∀ (k : Nat) (hk : k < l.length), ∃ g, A = some ⟨g, 0, none⟩ ∧ base ≤ g ∧ g < w.heap.size ∧ w.cell? ⟨g, k, none⟩ = some (.int .i64 (l[k] : Nat))
def LvIn (w : World) (base : Nat) (A : Option Addr) (c : Nat) (ll : List (List Pr)) : Prop := ll.length ≤ c ∧ c ≤ 9223372036854775807 ∧ ∀ (k : Nat) (hk : k < ll.length), ∃ g u, A = some ⟨g, 0, none⟩ ∧ base ≤ g ∧ g < w.heap.size ∧ w.cell? ⟨g, k, none⟩ = some u ∧ Xca w (fun b => b < w.heap.size) ll[k] u
theorem Xli (w : World) {ds : List Dc} {v : Value} (hin : Xfs w (· < w.heap.size) ds v) (hkd : ∀ d ∈ ds, 1 ≤ d.kind ∧ d.kind ≤ 8) (hW : dcWs ds ≤ 20480) :
  Calls Tryz.prog 12 #[.agg #[v]] w fun e w' => ∃ (A : Int → Option Addr) (c : Int → Nat) (L : Option Addr) (cL : Nat) (D : Option Addr) (cD : Nat),
   e = .returned (.tuple #[.agg #[.slice (A 1) (Xbg 1 ds 0).length (c 1), .slice (A 2) (Xbg 2 ds 0).length (c 2), .slice (A 3) (Xbg 3 ds 0).length (c 3), .slice (A 4) (Xbg 4 ds 0).length (c 4), .slice (A 5) (Xbg 5 ds 0).length (c 5), .slice (A 6) (Xbg 6 ds 0).length (c 6), .slice (A 7) (Xbg 7 ds 0).length (c 7), .slice (A 8) (Xbg 8 ds 0).length (c 8), .slice L (locD ds).length cL], .slice D (ordD (rawD ds)).length cD]) ∧
   (∀ k, 1 ≤ k → k ≤ 8 → IxIn w' w.heap.size (A k) (c k) (Xbg k ds 0)) ∧ LvIn w' w.heap.size L cL (locD ds) ∧ Xma w' w.heap.size (.slice D (ordD (rawD ds)).length cD) (ordD (rawD ds)) ∧ Below w.heap.size w w' := by
 refine (Yds Yag w hin hkd hW).mono ?_
 rintro e w' ⟨x, dv, base, rfl, hbase, htb, hdg, hb⟩
 have hx : ∀ k : Int, 1 ≤ k → k ≤ 8 → ∃ A c, tOf x k = .slice A (Xbg k ds 0).length c ∧ IxIn w' w.heap.size A c (Xbg k ds 0) := fun k h1 h8 => by
  obtain ⟨A, c, e, h2, h3, h4⟩ := (htb.ix k h1 h8).at
  exact ⟨A, c, e, h2, h3, fun j hj => by obtain ⟨g, q1, q2, q3, q4⟩ := h4 j hj; exact ⟨g, q1, by omega, q3, q4⟩⟩
 have hx2 : ∀ k : Int, ∃ y : Option Addr × Nat, 1 ≤ k → k ≤ 8 → tOf x k = .slice y.1 (Xbg k ds 0).length y.2 ∧ IxIn w' w.heap.size y.1 y.2 (Xbg k ds 0) := fun k => by
  by_cases h : 1 ≤ k ∧ k ≤ 8
  · obtain ⟨A, c, e, h2⟩ := hx k h.1 h.2
    exact ⟨(A, c), fun _ _ => ⟨e, h2⟩⟩
  · exact ⟨(none, 0), fun a b => absurd ⟨a, b⟩ h⟩
 obtain ⟨y, hy⟩ := Classical.axiomOfChoice hx2
 obtain ⟨vs, hv⟩ := htb.lv
 obtain ⟨L, cL, eL, l2, l3, l4⟩ := hv.at
 obtain ⟨D, cD, eD, d2, d3, d4⟩ := hdg
 refine ⟨fun k => (y k).1, fun k => (y k).2, L, cL, D, cD, ?_, fun k h1 h8 => (hy k h1 h8).2, ⟨l2, l3, fun k hk => by obtain ⟨g, u, q1, q2, q3, q4⟩ := l4 k hk; exact ⟨g, u, q1, by omega, q3, q4⟩⟩, ⟨D, cD, rfl, d2, d3, fun k hk => by obtain ⟨g, off, q1, q2, q3⟩ := d4 k hk; exact ⟨g, off, q1, by omega, q3⟩⟩, hb⟩
 have e1 : x.t1 = _ := (hy 1 (by decide) (by decide)).1
 have e2 : x.t2 = _ := (hy 2 (by decide) (by decide)).1
 have e3 : x.t3 = _ := (hy 3 (by decide) (by decide)).1
 have e4 : x.t4 = _ := (hy 4 (by decide) (by decide)).1
 have e5 : x.t5 = _ := (hy 5 (by decide) (by decide)).1
 have e6 : x.t6 = _ := (hy 6 (by decide) (by decide)).1
 have e7 : x.t7 = _ := (hy 7 (by decide) (by decide)).1
 have e8 : x.t8 = _ := (hy 8 (by decide) (by decide)).1
 rw [e1, e2, e3, e4, e5, e6, e7, e8, eL, eD]
theorem Xpy {s : List UInt8} {ds : List Dc} {p c : Nat} (h : Xco s = (ds, p, c)) (P : List UInt8 → Prop) (hP : ∀ x, x ≠ [] → Xrx x s → P x) : dcWs ds ≤ 20480 ∧ ∀ d ∈ ds, okD s.length P d := by
 by_cases hd : ds = []
 · subst hd
   exact ⟨by simp [dcWs], fun d hd => by cases hd⟩
 · have e : p = 0 ∧ c = 0 := by
    have h' := h
    unfold Xco at h'
    cases ht : toks s with
    | err q e =>
      rw [ht] at h'
      have h2 : (([] : List Dc), q, e) = (ds, p, c) := h'
      injection h2 with h3
      exact absurd h3.symm hd
    | ok us =>
      rw [ht] at h'
      cases hr : Xbs s.length us with
      | bad q e =>
        have h2 : (match Xbs s.length us with | .bad p c => (([] : List Dc), p, c) | .ok ds _ => (ds, 0, 0)) = (ds, p, c) := h'
        rw [hr] at h2
        have h3 : (([] : List Dc), q, e) = (ds, p, c) := h2
        injection h3 with h4
        exact absurd h4.symm hd
      | ok ds2 r =>
        have h2 : (match Xbs s.length us with | .bad p c => (([] : List Dc), p, c) | .ok ds _ => (ds, 0, 0)) = (ds, p, c) := h'
        rw [hr] at h2
        have h3 : (ds2, 0, 0) = (ds, p, c) := h2
        injection h3 with h4 h5
        injection h5 with h6 h7
        exact ⟨h6.symm, h7.symm⟩
   obtain ⟨rfl, rfl⟩ := e
   obtain ⟨h1, h2, h3⟩ := Xrg h P hP
   exact ⟨by omega, h3⟩
theorem read6 {s : List UInt8} {ds : List Dc} {p c : Nat} (h : Xco s = (ds, p, c)) : (∀ d ∈ ds, 1 ≤ d.kind ∧ d.kind ≤ 8) ∧ dcWs ds ≤ 20480 := by
 obtain ⟨h2, h3⟩ := Xpy h (fun _ => True) fun _ _ _ => trivial
 exact ⟨fun d hd => ⟨(h3 d hd).2.2.1, (h3 d hd).2.2.2.1⟩, h2⟩
def alF : List UInt8 := [115, 105, 110, 107, 32, 115, 32, 59, 32, 116, 104, 114, 101, 97, 100, 32, 116, 32, 123, 32, 118, 97, 114, 32, 120, 32, 105, 110, 116, 32, 61, 32, 49, 32, 59, 32, 111, 117, 116, 32, 115, 32, 121, 32, 59, 32, 125]
theorem al6_ok : (Xco alF).2 = (0, 0) := by kernel_rfl
theorem al6_k : Xbg 8 (Xco alF).1 0 = [1] := by kernel_rfl
theorem al6_l : (locD (Xco alF).1).map List.length = [1] := by kernel_rfl
theorem al6_r : rawD (Xco alF).1 = [⟨42, 41, [121]⟩] := by kernel_rfl
theorem al6_t : Xjz (Xco alF).1 [116] = 1 := by kernel_rfl
theorem al6_q : Xjz (Xco alF).1 [113] = -1 := by kernel_rfl
theorem al6_o : ordD (rawD (Xco alF).1) = [⟨42, 41, [121]⟩] := by rw [al6_r]; simp [ordD, Xbm]
theorem map_one6 {α β : Type} {f : α → β} {y : β} : ∀ {l : List α}, l.map f = [y] → ∃ a, l = [a] ∧ f a = y
 | [], h => nomatch h
 | [a], h => ⟨a, rfl, (List.cons.inj h).1⟩
 | _ :: _ :: _, h => nomatch (List.cons.inj h).2
theorem Ybe (w : World) : Calls Tryz.prog 9 #[.string ⟨alF.toArray⟩] w fun e w' => ∃ (A : Option Addr) (n m : Nat), e = .returned (.tuple #[.agg #[.slice A n m], .int .i64 0, .int .i64 0]) ∧ Xfs w' (fun b => w.heap.size ≤ b ∧ b < w'.heap.size) (Xco alF).1 (.slice A n m) ∧ Below w.heap.size w w' := by
 have he : (⟨alF.toArray⟩ : ByteArray).data.toList = alF := rfl
 have hp : Xco (⟨alF.toArray⟩ : ByteArray).data.toList = ((Xco alF).1, 0, 0) := by rw [he]; exact Prod.ext rfl al6_ok
 refine (Xof ⟨alF.toArray⟩ (by decide) hp w).mono ?_
 rintro e w' ⟨A, n, m, rfl, hd, hb⟩
 exact ⟨A, n, m, rfl, hd, hb⟩
set_option maxRecDepth 100000 in
set_option maxHeartbeats 4000000 in
theorem Xpg (w : World) : Calls Tryz.prog 8 #[] w fun e w' => e = .returned (.bool true) ∧ Below w.heap.size w w' := by
 obtain ⟨hkd, hW⟩ := read6 (show Xco alF = ((Xco alF).1, 0, 0) from Prod.ext rfl al6_ok)
 have h1 := Ybe
 have hk := al6_k
 have hl := al6_l
 have ho := al6_o
 have ht := al6_t
 have hq := al6_q
 generalize (Xco alF).1 = ds at hkd hW h1 hk hl ho ht hq
 obtain ⟨pl, hl1, hl2⟩ := map_one6 hl
 have HK := lh hk
 have HL := lh hl1
 have HP := lh hl2
 have HO := lh ho
 have HT := lh ht
 have HQ := lh hq
 have HKD := lh hkd
 have HW := lh hW
 have H1 := lh h1
 clear hk hl hl1 hl2 ho ht hq hkd hW h1
 go_enter Tryz.func8, Tryz.ntmps8
 go_wp2_with fail
 refine (H1.out w).mono ?_
 rintro e w1 ⟨A, n, m, rfl, hd, hb1⟩
 have HB1 := lh hb1
 have HD := lh hd
 clear hb1 hd
 go_wp2_with fail
 obtain ⟨X, hX⟩ : ∃ X, X = w1.alloc (.cells #[.slice A n m] 25) := ⟨_, rfl⟩
 obtain ⟨g, hg⟩ : ∃ g, g = w1.heap.size := ⟨_, rfl⟩
 have hbX : Below w1.heap.size w1 X := by rw [hX]; exact Xae _ _
 have r0 : X.heap[g]? = some (.cells #[.slice A n m] 25 (0, 0)) := by rw [hX, hg]; exact heap_alloc_new _ _
 have hsX : X.heap.size = g + 1 := by rw [hX, hg]; simp
 rw [← hX, ← hg]
 have hinX : Xfs X (· < X.heap.size) ds (.slice A n m) := HD.out.keep (fun b hb => hbX.block b hb.2) (fun b hb => by show b < X.heap.size; omega)
 clear hX
 refine (Xli X hinX HKD.out HW.out).mono ?_
 rintro e w2 ⟨Af, cf, L, cL, D, cD, rfl, hix, hlv, hdg, hb2⟩
 have hb12 := hbX.trans (hb2.mono hbX.size)
 have r2 := (hb2.block g (by omega)).trans r0
 have hin2 : Xfs w2 (· < w2.heap.size) ds (.slice A n m) := hinX.keep (fun b hb => hb2.block b hb) (fun b hb => Nat.lt_of_lt_of_le hb hb2.size)
 have h8 := hix 8 (by decide) (by decide)
 rw [HK.out] at h8 ⊢
 rw [HL.out] at hlv ⊢
 rw [HO.out] at hdg ⊢
 obtain ⟨z8a, z8b, h8⟩ := h8
 obtain ⟨g8, e8, -, l8, c8⟩ := h8 0 (by simp)
 obtain ⟨zLa, zLb, hlv⟩ := hlv
 obtain ⟨gL, u, eL, -, lL, cLu, hpr⟩ := hlv 0 (by simp)
 obtain ⟨pA, pc, eu, hpc, hpc2, -⟩ := hpr
 simp only [List.getElem_cons_zero] at c8 eu hpc
 rw [HP.out] at eu hpc
 obtain ⟨D', cD', eD, zDa, zDb, hdc⟩ := hdg
 cases eD
 obtain ⟨gD, offD, eD2, -, lD, d0, d1, d2⟩ := hdc 0 (by simp)
 simp only [List.getElem_cons_zero, Nat.zero_mul, Nat.add_zero] at d0 d1 d2
 have hft : ∀ V : World, Below w2.heap.size w2 V → Calls Tryz.prog 10 #[.agg #[.slice A n m], .string ⟨#[116]⟩] V fun e w' => e = .returned (.int .i64 1) ∧ Below V.heap.size V w' := fun V hV => by
  have := Xxk V (hin2.keep (fun b hb => hV.block b hb) (fun b hb => Nat.lt_of_lt_of_le hb hV.size)) [116]
  rw [HT.out] at this
  exact this
 have hfq : ∀ V : World, Below w2.heap.size w2 V → Calls Tryz.prog 10 #[.agg #[.slice A n m], .string ⟨#[113]⟩] V fun e w' => e = .returned (.int .i64 (-1)) ∧ Below V.heap.size V w' := fun V hV => by
  have := Xxk V (hin2.keep (fun b hb => hV.block b hb) (fun b hb => Nat.lt_of_lt_of_le hb hV.size)) [113]
  rw [HQ.out] at this
  exact this
 have q0 : w2.cell? ⟨g, 0, none⟩ = some (.slice A n m) := by rw [cell_of_row w2 g 0 _ _ (0, 0) r2]; rfl
 have lg : g < w2.heap.size := Xac r2
 have d2' : w2.cell? ⟨gD, offD + 2, none⟩ = some (.string ⟨#[121]⟩) := d2
 clear d2
 have HFT := lh hft
 have HFQ := lh hfq
 have HB2 := lh (HB1.out.trans (hb12.mono HB1.out.size))
 rw [e8, eL, eD2]
 subst eu
 clear hft hfq hix hlv hdc hb2 hb12 hbX r0 r2 hinX hin2 e8 eL eD2 h8 hsX hg HD HB1
 generalize (Xbg 1 ds 0).length = n1
 generalize (Xbg 2 ds 0).length = n2
 generalize (Xbg 3 ds 0).length = n3
 generalize (Xbg 4 ds 0).length = n4
 generalize (Xbg 5 ds 0).length = n5
 generalize (Xbg 6 ds 0).length = n6
 generalize (Xbg 7 ds 0).length = n7
 go_wp2_with (first
  | (go_at_call 10; (with_reducible refine (HFT.out _ (Xae _ _)).mono ?_); rintro e w3 ⟨rfl, hb3⟩; have HB3 := lh ((Xae w2 _).trans (hb3.mono (Xae w2 _).size)); have q3 : w3.cell? ⟨g, 0, none⟩ = some (.slice A n m) := (HB3.out.cell (p := ⟨g, 0, none⟩) lg).trans q0; clear hb3)
  | (go_at_call 10; (with_reducible refine (HFQ.out _ HB3.out).mono ?_); rintro e w4 ⟨rfl, hb4⟩; have HB4 := lh (HB3.out.trans (hb4.mono HB3.out.size)); clear hb4))
 go_ret
 exact ⟨rfl, HB2.out.trans (HB4.out.mono HB2.out.size)⟩
theorem IxIn.below {w w' : World} {B c : Nat} {A : Option Addr} {l : List Nat} (h : IxIn w B A c l) (hb : Below w.heap.size w w') : IxIn w' B A c l :=
 ⟨h.1, h.2.1, fun k hk => by obtain ⟨g, h1, h2, h3, h4⟩ := h.2.2 k hk; exact ⟨g, h1, h2, Nat.lt_of_lt_of_le h3 hb.size, (hb.cell (p := ⟨g, k, none⟩) h3).trans h4⟩⟩
theorem Xma.below {w w' : World} {B : Nat} {v : Value} {l : List Dg} (h : Xma w B v l) (hb : Below w.heap.size w w') : Xma w' B v l := by
 obtain ⟨A, c, h1, h2, h3, h4⟩ := h
 refine ⟨A, c, h1, h2, h3, fun k hk => ?_⟩
 obtain ⟨g, off, k1, k2, k3, k4, k5, k6⟩ := h4 k hk
 exact ⟨g, off, k1, k2, Nat.lt_of_lt_of_le k3 hb.size, (hb.cell (p := ⟨g, off + k * 3, none⟩) k3).trans k4, (hb.cell (p := ⟨g, off + k * 3 + 1, none⟩) k3).trans k5, (hb.cell (p := ⟨g, off + k * 3 + 2, none⟩) k3).trans k6⟩
theorem LvIn.below {w w' : World} {B c : Nat} {A : Option Addr} {ll : List (List Pr)} (h : LvIn w B A c ll) (hb : Below w.heap.size w w') : LvIn w' B A c ll :=
 ⟨h.1, h.2.1, fun k hk => by
  obtain ⟨g, u, h1, h2, h3, h4, h5⟩ := h.2.2 k hk
  exact ⟨g, u, h1, h2, Nat.lt_of_lt_of_le h3 hb.size, (hb.cell (p := ⟨g, k, none⟩) h3).trans h4, h5.keep (fun b hb' => hb.block b hb') (fun b hb' => Nat.lt_of_lt_of_le hb' hb.size)⟩⟩
set_option maxHeartbeats 1000000 in
theorem Xrm (w : World) {l : List Nat} {A A' : Option Addr} {B B' c c' : Nat} (h : IxIn w B A c l) (h' : IxIn w B' A' c' l) :
  Calls Tryz.prog 25 #[.slice A l.length c, .slice A' l.length c'] w fun e w' => e = .returned (.bool true) ∧ ∃ m, w' = w.drewN m := by
 obtain ⟨h1, h2, h3⟩ := h
 obtain ⟨g1, g2, g3⟩ := h'
 obtain ⟨n, hn⟩ : ∃ n, n = l.length := ⟨_, rfl⟩
 rw [← hn] at h1 g1 ⊢
 have HN := lh hn
 have HA := lh h3
 have HA' := lh g3
 clear hn h3 g3
 go_enter Tryz.func25, Tryz.ntmps25
 go_wp2
 go_loopw [5] (fun i wr => ∃ k : Nat, k ≤ n ∧ i = .int .i64 k ∧ Hid (∃ m, wr = w.drewN m)) (fun i _ => n - (intOf i).toNat)
 case atStart => exact ⟨0, Nat.zero_le _, rfl, lh ⟨0, rfl⟩⟩
 case round =>
  obtain ⟨wo, rfl⟩ : ∃ wo : World, wo = wr := ⟨_, rfl⟩
  obtain ⟨k, hk, rfl, HD⟩ := hrel
  by_cases hlt : k < n
  · have hkl : k < l.length := by rw [← HN.out]; exact hlt
    obtain ⟨b, rfl, -, -, c0⟩ := HA.out k hkl
    obtain ⟨b', rfl, -, -, c1⟩ := HA'.out k hkl
    have hcell : ∀ p : Addr, wo.cell? p = w.cell? p := fun p => by obtain ⟨m, hm⟩ := HD.out; rw [hm]; rfl
    have r0 := (hcell _).trans c0
    have r1 := (hcell _).trans c1
    generalize ((l[k] : Nat) : Int) = x at r0 r1
    clear hcell c0 c1 hkl
    go_wp2
    go_quiet (fail)
    go_wp2
    go_roundw
    case rel => exact ⟨k + 1, by omega, by go_num, lh (by obtain ⟨m, hm⟩ := HD.out; exact ⟨_, by rw [hm, World.drewN_drewN]⟩)⟩
    case measure => first | (simp [intOf]; done) | (simp [intOf]; omega)
  · go_wp2
    go_ret
    exact ⟨rfl, HD.out⟩
set_option maxHeartbeats 1000000 in
theorem Xpc (w : World) {S S' : Nat → Prop} {ps : List Pr} {v u : Value} (h : Xca w S ps v) (h' : Xca w S' ps u) :
  Calls Tryz.prog 26 #[v, u] w fun e w' => e = .returned (.bool true) ∧ ∃ m, w' = w.drewN m := by
 obtain ⟨A, c, rfl, h1, h2, h3⟩ := h
 obtain ⟨A', c', rfl, g1, g2, g3⟩ := h'
 obtain ⟨n, hn⟩ : ∃ n, n = ps.length := ⟨_, rfl⟩
 rw [← hn] at h1 g1 ⊢
 have HN := lh hn
 have HA := lh h3
 have HA' := lh g3
 clear hn h3 g3
 go_enter Tryz.func26, Tryz.ntmps26
 go_wp2
 go_loopw [5] (fun i wr => ∃ k : Nat, k ≤ n ∧ i = .int .i64 k ∧ Hid (∃ m, wr = w.drewN m)) (fun i _ => n - (intOf i).toNat)
 case atStart => exact ⟨0, Nat.zero_le _, rfl, lh ⟨0, rfl⟩⟩
 case round =>
  obtain ⟨wo, rfl⟩ : ∃ wo : World, wo = wr := ⟨_, rfl⟩
  obtain ⟨k, hk, rfl, HD⟩ := hrel
  by_cases hlt : k < n
  · have hkl : k < ps.length := by rw [← HN.out]; exact hlt
    obtain ⟨b, off, rfl, -, -, -, c0, c1⟩ := HA.out k hkl
    obtain ⟨b', off', rfl, -, -, -, d0, d1⟩ := HA'.out k hkl
    have hcell : ∀ p : Addr, wo.cell? p = w.cell? p := fun p => by obtain ⟨m, hm⟩ := HD.out; rw [hm]; rfl
    have r0 := (hcell _).trans c0
    have r1 := (hcell _).trans c1
    have t0 := (hcell _).trans d0
    have t1 := (hcell _).trans d1
    generalize Xab ps[k].name = x at r0 t0
    generalize Xab ps[k].type = y at r1 t1
    clear hcell c0 c1 d0 d1 hkl
    go_wp2
    go_quiet (fail)
    go_wp2
    go_roundw
    case rel => exact ⟨k + 1, by omega, by go_num, lh (by obtain ⟨m, hm⟩ := HD.out; exact ⟨_, by rw [hm, World.drewN_drewN]⟩)⟩
    case measure => first | (simp [intOf]; done) | (simp [intOf]; omega)
  · go_wp2
    go_ret
    exact ⟨rfl, HD.out⟩
set_option maxHeartbeats 2000000 in
theorem Xpa (w : World) {B B' : Nat} {l : List Dg} {v u : Value} (h : Xma w B v l) (h' : Xma w B' u l) :
  Calls Tryz.prog 14 #[v, u] w fun e w' => e = .returned (.bool true) ∧ ∃ m, w' = w.drewN m := by
 obtain ⟨A, c, rfl, h1, h2, h3⟩ := h
 obtain ⟨A', c', rfl, g1, g2, g3⟩ := h'
 obtain ⟨n, hn⟩ : ∃ n, n = l.length := ⟨_, rfl⟩
 rw [← hn] at h1 g1 ⊢
 have HN := lh hn
 have HA := lh h3
 have HA' := lh g3
 clear hn h3 g3
 go_enter Tryz.func14, Tryz.ntmps14
 go_wp2
 go_loopw [5] (fun i wr => ∃ k : Nat, k ≤ n ∧ i = .int .i64 k ∧ Hid (∃ m, wr = w.drewN m)) (fun i _ => n - (intOf i).toNat)
 case atStart => exact ⟨0, Nat.zero_le _, rfl, lh ⟨0, rfl⟩⟩
 case round =>
  obtain ⟨wo, rfl⟩ : ∃ wo : World, wo = wr := ⟨_, rfl⟩
  obtain ⟨k, hk, rfl, HD⟩ := hrel
  by_cases hlt : k < n
  · have hkl : k < l.length := by rw [← HN.out]; exact hlt
    obtain ⟨b, off, rfl, -, -, c0, c1, c2⟩ := HA.out k hkl
    obtain ⟨b', off', rfl, -, -, d0, d1, d2⟩ := HA'.out k hkl
    have hcell : ∀ p : Addr, wo.cell? p = w.cell? p := fun p => by obtain ⟨m, hm⟩ := HD.out; rw [hm]; rfl
    have r0 := (hcell _).trans c0
    have r1 := (hcell _).trans c1
    have r2 := (hcell _).trans c2
    have t0 := (hcell _).trans d0
    have t1 := (hcell _).trans d1
    have t2 := (hcell _).trans d2
    generalize l[k].pl = x at r0 t0
    generalize l[k].code = y at r1 t1
    generalize Xab l[k].name = z at r2 t2
    clear hcell c0 c1 c2 d0 d1 d2 hkl
    go_wp2
    go_quiet (fail)
    go_wp2
    go_roundw
    case rel => exact ⟨k + 1, by omega, by go_num, lh (by obtain ⟨m, hm⟩ := HD.out; exact ⟨_, by rw [hm, World.drewN_drewN]⟩)⟩
    case measure => first | (simp [intOf]; done) | (simp [intOf]; omega)
  · go_wp2
    go_ret
    exact ⟨rfl, HD.out⟩
def tbV (A : Int → Option Addr) (n c : Int → Nat) (L : Option Addr) (nL cL : Nat) : Array Value := #[.slice (A 1) (n 1) (c 1), .slice (A 2) (n 2) (c 2), .slice (A 3) (n 3) (c 3), .slice (A 4) (n 4) (c 4), .slice (A 5) (n 5) (c 5), .slice (A 6) (n 6) (c 6), .slice (A 7) (n 7) (c 7), .slice (A 8) (n 8) (c 8), .slice L nL cL]
set_option maxRecDepth 100000 in
set_option maxHeartbeats 4000000 in
theorem Xpb (w : World) {B B' : Nat} {A A' : Int → Option Addr} {c c' n : Int → Nat} {L L' : Option Addr} {cL cL' : Nat} {lk : Int → List Nat} {ll : List (List Pr)}
  (hn : ∀ k, n k = (lk k).length) (h : ∀ k, 1 ≤ k → k ≤ 8 → IxIn w B (A k) (c k) (lk k)) (h' : ∀ k, 1 ≤ k → k ≤ 8 → IxIn w B' (A' k) (c' k) (lk k)) (hl : LvIn w B L cL ll) (hl' : LvIn w B' L' cL' ll) :
  Calls Tryz.prog 13 #[.agg (tbV A n c L ll.length cL), .agg (tbV A' n c' L' ll.length cL')] w fun e w' => e = .returned (.bool true) ∧ Below w.heap.size w w' := by
 obtain ⟨X, hX⟩ : ∃ X : World, X = (w.alloc (.cells (tbV A n c L ll.length cL) 34)).alloc (.cells (tbV A' n c' L' ll.length cL') 34) := ⟨_, rfl⟩
 have hbX : Below w.heap.size w X := by rw [hX]; exact ((Below.refl _ _).alloc (Nat.le_refl _) _).alloc (by simp) _
 have e1 : (w.alloc (.cells (tbV A n c L ll.length cL) 34)).heap.size = w.heap.size + 1 := by simp
 have r0 : X.heap[w.heap.size]? = some (.cells (tbV A n c L ll.length cL) 34 (0, 0)) := by rw [hX]; exact ((Xae _ _).block _ (by simp)).trans (heap_alloc_new _ _)
 have r1 : X.heap[w.heap.size + 1]? = some (.cells (tbV A' n c' L' ll.length cL') 34 (0, 0)) := by rw [hX, ← e1]; exact heap_alloc_new _ _
 have hI : ∀ k, 1 ≤ k → k ≤ 8 → ∀ m, Calls Tryz.prog 25 #[.slice (A k) (n k) (c k), .slice (A' k) (n k) (c' k)] (X.drewN m) fun e w' => e = .returned (.bool true) ∧ ∃ q, w' = X.drewN q := fun k h1 h8 m => by
  have hb2 : Below w.heap.size w (X.drewN m) := ⟨hbX.os, hbX.tape, hbX.output, hbX.size, hbX.block⟩
  have := Xrm (X.drewN m) ((h k h1 h8).below hb2) ((h' k h1 h8).below hb2)
  rw [← hn k] at this
  exact Calls.quiet_of this
 have hL1 := hl.below hbX
 have hL2 := hl'.below hbX
 have hc : ∀ (m j : Nat), (X.drewN m).cell? ⟨w.heap.size, j, none⟩ = (tbV A n c L ll.length cL)[j]? ∧ (X.drewN m).cell? ⟨w.heap.size + 1, j, none⟩ = (tbV A' n c' L' ll.length cL')[j]? := fun m j =>
  ⟨by show X.cell? _ = _; rw [cell_of_row X _ j _ _ (0, 0) r0], by show X.cell? _ = _; rw [cell_of_row X _ j _ _ (0, 0) r1]⟩
 have HXX := lh hX
 have HBX := lh hbX
 have HI1 := lh (hI 1 (by decide) (by decide))
 have HI2 := lh (hI 2 (by decide) (by decide))
 have HI3 := lh (hI 3 (by decide) (by decide))
 have HI4 := lh (hI 4 (by decide) (by decide))
 have HI5 := lh (hI 5 (by decide) (by decide))
 have HI6 := lh (hI 6 (by decide) (by decide))
 have HI7 := lh (hI 7 (by decide) (by decide))
 have HI8 := lh (hI 8 (by decide) (by decide))
 have HC := lh hc
 obtain ⟨N, hN⟩ : ∃ N, N = ll.length := ⟨_, rfl⟩
 obtain ⟨l1, l2, l3⟩ := hL1
 obtain ⟨m1, m2, m3⟩ := hL2
 rw [← hN] at l1 m1 HXX HC ⊢
 have HN := lh hN
 have HL1 := lh l3
 have HL2 := lh m3
 clear hX hbX e1 r0 r1 hI hc h h' hl hl' hn hN l3 m3
 unfold tbV at HXX HC ⊢
 generalize A 1 = A1 at *
 generalize A 2 = A2 at *
 generalize A 3 = A3 at *
 generalize A 4 = A4 at *
 generalize A 5 = A5 at *
 generalize A 6 = A6 at *
 generalize A 7 = A7 at *
 generalize A 8 = A8 at *
 generalize A' 1 = D1 at *
 generalize A' 2 = D2 at *
 generalize A' 3 = D3 at *
 generalize A' 4 = D4 at *
 generalize A' 5 = D5 at *
 generalize A' 6 = D6 at *
 generalize A' 7 = D7 at *
 generalize A' 8 = D8 at *
 go_enter Tryz.func13, Tryz.ntmps13
 go_wp2_with fail
 rw [← HXX.out]
 have a0 : X.cell? ⟨w.heap.size, 0, none⟩ = some (.slice A1 (n 1) (c 1)) := (HC.out 0 0).1
 have d0 : X.cell? ⟨w.heap.size + 1, 0, none⟩ = some (.slice D1 (n 1) (c' 1)) := (HC.out 0 0).2
 have a1 : X.cell? ⟨w.heap.size, 1, none⟩ = some (.slice A2 (n 2) (c 2)) := (HC.out 0 1).1
 have d1 : X.cell? ⟨w.heap.size + 1, 1, none⟩ = some (.slice D2 (n 2) (c' 2)) := (HC.out 0 1).2
 have a2 : X.cell? ⟨w.heap.size, 2, none⟩ = some (.slice A3 (n 3) (c 3)) := (HC.out 0 2).1
 have d2 : X.cell? ⟨w.heap.size + 1, 2, none⟩ = some (.slice D3 (n 3) (c' 3)) := (HC.out 0 2).2
 have a3 : X.cell? ⟨w.heap.size, 3, none⟩ = some (.slice A4 (n 4) (c 4)) := (HC.out 0 3).1
 have d3 : X.cell? ⟨w.heap.size + 1, 3, none⟩ = some (.slice D4 (n 4) (c' 4)) := (HC.out 0 3).2
 have a4 : X.cell? ⟨w.heap.size, 4, none⟩ = some (.slice A5 (n 5) (c 5)) := (HC.out 0 4).1
 have d4 : X.cell? ⟨w.heap.size + 1, 4, none⟩ = some (.slice D5 (n 5) (c' 5)) := (HC.out 0 4).2
 have a5 : X.cell? ⟨w.heap.size, 5, none⟩ = some (.slice A6 (n 6) (c 6)) := (HC.out 0 5).1
 have d5 : X.cell? ⟨w.heap.size + 1, 5, none⟩ = some (.slice D6 (n 6) (c' 6)) := (HC.out 0 5).2
 have a6 : X.cell? ⟨w.heap.size, 6, none⟩ = some (.slice A7 (n 7) (c 7)) := (HC.out 0 6).1
 have d6 : X.cell? ⟨w.heap.size + 1, 6, none⟩ = some (.slice D7 (n 7) (c' 7)) := (HC.out 0 6).2
 have a7 : X.cell? ⟨w.heap.size, 7, none⟩ = some (.slice A8 (n 8) (c 8)) := (HC.out 0 7).1
 have d7 : X.cell? ⟨w.heap.size + 1, 7, none⟩ = some (.slice D8 (n 8) (c' 8)) := (HC.out 0 7).2
 have a8 : X.cell? ⟨w.heap.size, 8, none⟩ = some (.slice L N cL) := (HC.out 0 8).1
 have d8 : X.cell? ⟨w.heap.size + 1, 8, none⟩ = some (.slice L' N cL') := (HC.out 0 8).2
 refine (HI1.out 0).mono ?_
 rintro e v1 ⟨rfl, q1, rfl⟩
 go_wp2_with (first
  | (go_at_call 25; (with_reducible refine (HI2.out _).mono ?_); rintro e v2 ⟨rfl, q2, rfl⟩)
  | (go_at_call 25; (with_reducible refine (HI3.out _).mono ?_); rintro e v3 ⟨rfl, q3, rfl⟩)
  | (go_at_call 25; (with_reducible refine (HI4.out _).mono ?_); rintro e v4 ⟨rfl, q4, rfl⟩)
  | (go_at_call 25; (with_reducible refine (HI5.out _).mono ?_); rintro e v5 ⟨rfl, q5, rfl⟩)
  | (go_at_call 25; (with_reducible refine (HI6.out _).mono ?_); rintro e v6 ⟨rfl, q6, rfl⟩)
  | (go_at_call 25; (with_reducible refine (HI7.out _).mono ?_); rintro e v7 ⟨rfl, q7, rfl⟩)
  | (go_at_call 25; (with_reducible refine (HI8.out _).mono ?_); rintro e v8 ⟨rfl, q8, rfl⟩))
 go_loopw [5] (fun i wr => ∃ k : Nat, k ≤ N ∧ i = .int .i64 k ∧ Hid (∃ m, wr = X.drewN m)) (fun i _ => N - (intOf i).toNat)
 case atStart => exact ⟨0, Nat.zero_le _, rfl, lh ⟨_, rfl⟩⟩
 case round =>
  obtain ⟨wo, rfl⟩ : ∃ wo : World, wo = wr := ⟨_, rfl⟩
  obtain ⟨k, hk, rfl, HD⟩ := hrel
  have hcell : ∀ p : Addr, wo.cell? p = X.cell? p := fun p => by obtain ⟨m, hm⟩ := HD.out; rw [hm]; rfl
  have s8 := (hcell _).trans a8
  have t8 := (hcell _).trans d8
  clear a0 a1 a2 a3 a4 a5 a6 a7 a8 d0 d1 d2 d3 d4 d5 d6 d7 d8
  by_cases hlt : k < N
  · have hkl : k < ll.length := by rw [← HN.out]; exact hlt
    obtain ⟨g, u, rfl, -, -, c0, hp⟩ := HL1.out k hkl
    obtain ⟨g', u', rfl, -, -, c1, hp'⟩ := HL2.out k hkl
    have r0 := (hcell _).trans c0
    have r1 := (hcell _).trans c1
    have hbel : ∀ i, Below X.heap.size X (wo.drewN i) := fun i => by obtain ⟨m, hm⟩ := HD.out; rw [hm]; exact ⟨rfl, rfl, rfl, Nat.le_refl _, fun _ _ => rfl⟩
    have HSP : Hid (∀ i, Calls Tryz.prog 26 #[u, u'] (wo.drewN i) fun e w' => e = .returned (.bool true) ∧ ∃ m, w' = (wo.drewN i).drewN m) := lh fun i => Xpc (wo.drewN i) (hp.keep (S' := fun b => b < X.heap.size) (fun b hb => (hbel i).block b hb) (fun b hb => hb)) (hp'.keep (S' := fun b => b < X.heap.size) (fun b hb => (hbel i).block b hb) (fun b hb => hb))
    obtain ⟨UA, un, uc, eu⟩ : ∃ A n c, u = .slice A n c := by obtain ⟨A, c, h, -⟩ := hp; exact ⟨A, _, c, h⟩
    obtain ⟨UA', un', uc', eu'⟩ : ∃ A n c, u' = .slice A n c := by obtain ⟨A, c, h, -⟩ := hp'; exact ⟨A, _, c, h⟩
    subst eu eu'
    clear hcell c0 c1 hp hp' hbel hkl
    go_wp2
    go_quiet ((go_at_call 26; with_reducible exact Calls.quiet_of (HSP.out _)))
    go_wp2
    go_roundw
    case rel => exact ⟨k + 1, by omega, by go_num, lh (by obtain ⟨m, hm⟩ := HD.out; exact ⟨_, by rw [hm, World.drewN_drewN]⟩)⟩
    case measure => first | (simp [intOf]; done) | (simp [intOf]; omega)
  · clear hcell
    go_wp2
    go_ret
    exact ⟨rfl, by obtain ⟨m, hm⟩ := HD.out; rw [hm]; have h := HBX.out; exact ⟨h.os, h.tape, h.output, h.size, h.block⟩⟩
def bz : List UInt8 := [115, 105, 110, 107, 32, 122, 122, 57, 32, 59]
def zz : List UInt8 := [122, 122, 57]
def vz : List Tok := [⟨4, [115, 105, 110, 107], 0⟩, ⟨1, zz, 5⟩, ⟨3, [59], 9⟩]
theorem Ygi : toks bz = .ok vz := by kernel_rfl
theorem decl_zz (L x n : Nat) : Xbx L x (vz.map (Tok.on n)) = if x < 64 then .ok ⟨6, ((5 + n : Nat) : Int), 0, zz, [], [], []⟩ [] else .bad (5 + n) 22 := by
 by_cases h : x < 64
 · rw [if_pos h]
   unfold Xbx vz
   simp [Xal, Xhm, Rd.bind, Xcc, kd, plc, tx, h, Tok.on, Xee, Xgk, Rd.map]
 · rw [if_neg h]
   unfold Xbx vz
   simp [Xal, Xhm, Rd.bind, Xcc, kd, plc, tx, h, Tok.on]
theorem until_zz (L k n : Nat) : Xas [] 0 (Xbx L) 4 k (vz.map (Tok.on n)) = if k < 64 then .ok [⟨6, ((5 + n : Nat) : Int), 0, zz, [], [], []⟩] [] else .bad (5 + n) 22 := by
 show (if k < 0 ∨ tx (vz.map (Tok.on n)) ≠ [] then (Xbx L k (vz.map (Tok.on n))).bind fun a r => (Xas [] 0 (Xbx L) 3 (k + 1) r).map (a :: ·) else _) = _
 rw [if_pos (Or.inr (by unfold vz; simp [tx, Tok.on])), decl_zz]
 by_cases h : k < 64
 · rw [if_pos h, if_pos h]
   rfl
 · rw [if_neg h, if_neg h]
   rfl
theorem prog_zz {a : List UInt8} (hl : a.length ≤ 16000) {x y : List Dc} {p q : Nat} (ha : Xco a = (x, p, 0)) (hb : Xco (a ++ 32 :: bz) = (y, q, 0)) :
  ∃ z : Int, 0 ≤ z ∧ y = x ++ [⟨6, z, 0, zz, [], [], []⟩] := by
 obtain ⟨us, h1, h2, -⟩ := Xwh ha rfl
 have hbz : bz.length = 10 := rfl
 by_cases hm : us.length + vz.length ≤ 4096
 · have h5 := Ybh (b := bz) (by omega) h1 Ygi hm
   have h6 := Xyc a.length (a ++ 32 :: bz).length (vz.map (Tok.on (a.length + 1))) us.length 0 us x (Nat.le_refl _) (fun t ht => (Xkq h1 t ht).1) h2
   have h7 : Xbs (a ++ 32 :: bz).length (us ++ vz.map (Tok.on (a.length + 1))) = _ := h6
   rw [Yeo h5, h7] at hb
   rw [show (vz.map (Tok.on (a.length + 1))).length + 1 = 4 from rfl, until_zz] at hb
   by_cases hk : 0 + x.length < 64
   · rw [if_pos hk] at hb
     have h8 : (x ++ [(⟨6, ((5 + (a.length + 1) : Nat) : Int), 0, zz, [], [], []⟩ : Dc)], 0, 0) = (y, q, 0) := hb
     injection h8 with h9
     exact ⟨_, by omega, h9.symm⟩
   · rw [if_neg hk] at hb
     have h8 : (([] : List Dc), 5 + (a.length + 1), 22) = (y, q, 0) := hb
     injection h8 with _ h9
     injection h9 with _ h10
     cases h10
 · obtain ⟨r, h5⟩ := Ybi (b := bz) (by omega) h1 Ygi hm
   have h6 : Xco (a ++ 32 :: bz) = ([], r, 12) := by unfold Xco; rw [h5]
   rw [h6] at hb
   injection hb with _ h9
   injection h9 with _ h10
   cases h10
theorem names_zz {a : List UInt8} {x y : List Dc} {p q : Nat} (hl : a.length ≤ 16000) (ha : Xco a = (x, p, 0)) (hb : Xco (a ++ 32 :: bz) = (y, q, 0)) (hno : ¬ Xrx zz a) :
  (∀ k : Int, k ≠ 6 → Xbg k y 0 = Xbg k x 0) ∧ Xbg 6 y 0 = Xbg 6 x 0 ++ [x.length] ∧ locD y = locD x ∧
  ((Xbg 6 x 0).length < 4 → rawD y = rawD x) ∧ (4 ≤ (Xbg 6 x 0).length → (ordD (rawD y)).length = (ordD (rawD x)).length + 1) := by
 obtain ⟨z, hz, rfl⟩ := prog_zz hl ha hb
 obtain ⟨-, hok⟩ := Xpy ha (fun s => s ≠ zz) fun s _ hs e => hno (e ▸ hs)
 have hne : ∀ s : List UInt8, (fun s => s ≠ zz) s → s ≠ (⟨6, z, 0, zz, [], [], []⟩ : Dc).name := fun s hs => hs
 obtain ⟨h1, h2⟩ := raw_more (z := ⟨6, z, 0, zz, [], [], []⟩) hne hok
 rw [Yfp (z := ⟨6, z, 0, zz, [], [], []⟩) hne hok rfl rfl rfl] at h1 h2
 have hlen : (Xbg 6 x 0).length = (x.filter fun d => decide (d.kind = 6)).length := Xkc 6 x 0
 refine ⟨fun k hk => ?_, ?_, ?_, fun h => ?_, fun h => ?_⟩
 · rw [Xiw, if_neg (fun e => hk e.symm), List.append_nil]
 · rw [Xiw, if_pos rfl, Nat.zero_add]
 · rw [h2]; simp
 · rw [h1, if_neg (by omega), List.append_nil]
 · rw [h1, if_pos (by omega)]
   refine Yee _ _ fun hm => ?_
   exact (dcDs_q x x [] hok _ hm).2.2.2 rfl
end Go.Proofs.YtbckeljbpknbdaaGreatDoor
