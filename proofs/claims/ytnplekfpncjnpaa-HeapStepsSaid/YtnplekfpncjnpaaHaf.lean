/- The heap's function Of (with slices.IndexFunc and its closure). -/
import Derived.Test.YtnplekfpncjnpaaHae
import Derived.RegionTactic
set_option linter.unusedVariables false
set_option linter.unusedSimpArgs false
namespace Go.Proofs.Ytnplekfpncjnpaa
open Go.RowKit

theorem two_new (w : World) (o : Obj) (cs : Array Value) (t : TypeId) : ((w.alloc o).alloc (.cells cs t)).heap[w.heap.size + 1]? = some (.cells cs t (0, 0)) := by
  have hs : (w.alloc o).heap.size = w.heap.size + 1 := by simp
  rw [← hs, heap_alloc_new]
theorem two_size (w : World) (o o' : Obj) : ((w.alloc o).alloc o').heap.size = w.heap.size + 2 := by simp
theorem four_old (w : World) (a b c d : Value) (t : TypeId) (o : Obj) : ((w.alloc (.cells #[a, b, c, d] t)).alloc o).heap[w.heap.size]? = some (.cells #[a, b, c, d] t (0, 0)) := by
  rw [heap_alloc_old _ _ (by simp), heap_alloc_new]
set_option maxRecDepth 100000 in
theorem ends_any (w : World) (q k : Nat) (hq : w.cell? ⟨q, 0, none⟩ = some (.int .i64 (k : Nat))) (hqlt : q < w.heap.size) (o : Ob) (ho : o.at_ + o.size ≤ 64) :
    Calls Try.prog 27 #[oagg o, .pointer (some ⟨q, 0, none⟩)] w fun e w' => e = .returned (.bool (decide (k < o.at_ + o.size))) ∧ Below w.heap.size w w' := by
  obtain ⟨a, s, f, p⟩ := o
  have HB := Lib.hid (fun o : Obj => (Below.refl w.heap.size w).alloc (Nat.le_refl _) o)
  unfold oagg
  dsimp only at ho ⊢
  by_cases hlt : k < a + s
  · rw [decide_eq_true hlt]
    have hlt' : (k : Int) < (a : Int) + (s : Int) := by omega
    go_enter Try.func27, Try.ntmps27
    go_wp2
    go_ret
    exact ⟨rfl, HB.out _⟩
  · rw [decide_eq_false hlt]
    have hlt' : ¬ (k : Int) < (a : Int) + (s : Int) := by omega
    go_enter Try.func27, Try.ntmps27
    go_wp2
    go_ret
    exact ⟨rfl, HB.out _⟩

set_option maxRecDepth 100000 in
set_option maxHeartbeats 1000000 in
theorem index_any {w : World} {base : Nat} {os : List Ob} {v : Value} (X : RowO w base os v) (q k : Nat) (hq : w.cell? ⟨q, 0, none⟩ = some (.int .i64 (k : Nat))) (hqlt : q < w.heap.size) (hos : ∀ o ∈ os, o.at_ + o.size ≤ 64) (hl : os.length ≤ 64)
    (i : Nat) (hi : i < os.length) (h1 : ∀ j (hj : j < i), ¬ k < (os[j]'(by omega)).at_ + (os[j]'(by omega)).size) (h2 : k < os[i].at_ + os[i].size) :
    Calls Try.prog 26 #[v, .func (.func 27) #[] #[.pointer (some ⟨q, 0, none⟩)]] w fun e w' => e = .returned (.int .i64 (i : Nat)) ∧ Below w.heap.size w w' := by
  obtain ⟨B, d, rfl, hd⟩ := X.form
  have HAT := Lib.hid (fun (j : Nat) (hj : j < os.length) => X.at_ j hj)
  have HE := Lib.hid (fun (wx : World) (hb : Below w.heap.size w wx) (j : Nat) (hj : j < os.length) => ends_any wx q k ((hb.cell (p := ⟨q, 0, none⟩) hqlt).trans hq) (Nat.lt_of_lt_of_le hqlt hb.size) os[j] (hos _ (List.getElem_mem hj)))
  have HN := Lib.hid h1
  have HY := Lib.hid h2
  obtain ⟨n, hn⟩ : ∃ n, n = os.length := ⟨_, rfl⟩
  have HLN := Lib.hid hn
  rw [← hn] at hd hl ⊢
  have hi' : i < n := by omega
  clear X hq hos h1 h2 hn
  go_enter Try.func26, Try.ntmps26
  go_wp2
  go_loopw [8] (fun x wr => ∃ j : Nat, j ≤ i ∧ x = .int .i64 j ∧ Hid (Below w.heap.size w wr)) (fun x _ => n - (intOf x).toNat)
  case atStart => exact ⟨0, Nat.zero_le _, rfl, Lib.hid (Below.refl _ _)⟩
  case round =>
    obtain ⟨wo, rfl⟩ : ∃ wo : World, wo = wr := ⟨_, rfl⟩
    obtain ⟨j, hj, rfl, HBL⟩ := hrel
    have hjl : j < os.length := by rw [← HLN.out]; omega
    have hjn : j < n := by omega
    obtain ⟨g, cap, hv, -, -, hg, k0, k1, k2, k3⟩ := HAT.out j hjl
    cases hv
    have HC := Lib.hid (HE.out wo HBL.out j hjl)
    have c0 := (HBL.out.cell (p := ⟨g, j * 4, none⟩) hg).trans k0
    have c1 := (HBL.out.cell (p := ⟨g, j * 4 + 1, none⟩) hg).trans k1
    have c2 := (HBL.out.cell (p := ⟨g, j * 4 + 2, none⟩) hg).trans k2
    have c3 := (HBL.out.cell (p := ⟨g, j * 4 + 3, none⟩) hg).trans k3
    clear k0 k1 k2 k3
    by_cases hji : j = i
    · subst hji
      rw [decide_eq_true HY.out] at HC
      obtain ⟨o, ho⟩ : ∃ o, o = os[j] := ⟨_, rfl⟩
      rw [← ho] at HC c0 c1 c2 c3
      unfold oagg at HC
      clear ho
      go_wp2_with fail
      refine HC.out.mono ?_
      rintro e w2 ⟨rfl, hb2⟩
      have HB2 := Lib.hid (HBL.out.trans (hb2.mono HBL.out.size))
      clear hb2
      go_wp2
      go_ret
      exact ⟨rfl, HB2.out⟩
    · rw [decide_eq_false (HN.out j (by omega))] at HC
      obtain ⟨o, ho⟩ : ∃ o, o = os[j] := ⟨_, rfl⟩
      rw [← ho] at HC c0 c1 c2 c3
      unfold oagg at HC
      clear ho
      go_wp2_with fail
      refine HC.out.mono ?_
      rintro e w2 ⟨rfl, hb2⟩
      have HB2 := Lib.hid (HBL.out.trans (hb2.mono HBL.out.size))
      clear hb2
      go_wp2
      go_roundw
      case rel => exact ⟨j + 1, by omega, by go_num, HB2⟩
      case measure => simp [intOf]; omega

theorem four_set {w : World} {z : Nat} {o0 o1 o2 o3 : Value} {t : TypeId} (hrow : w.heap[z]? = some (.cells #[o0, o1, o2, o3] t (0, 0))) (u0 u1 u2 u3 : Value) :
    (((w.setCell ⟨z, 0, none⟩ u0).setCell ⟨z, 1, none⟩ u1).setCell ⟨z, 2, none⟩ u2).setCell ⟨z, 3, none⟩ u3 = w.setRow z #[u0, u1, u2, u3] := by
  have e : ∀ (c : Array Value) (i : Nat) (u : Value), ((w.setRow z c).setCell ⟨z, i, none⟩ u) = w.setRow z (c.setIfInBounds i u) := fun c i u => by
    rw [setCell_eq_setRow (w.setRow z c) z i c _ _ u (setRow_heap w z _ c _ _ hrow), setRow_setRow]
  rw [setCell_eq_setRow w z 0 _ _ _ u0 hrow, e, e, e]
  rfl
theorem four_fin {w0 w : World} {z : Nat} {o0 o1 o2 o3 : Value} {t : TypeId} (hrow : w.heap[z]? = some (.cells #[o0, o1, o2, o3] t (0, 0))) (hz : z = w0.heap.size) (hb : Below w0.heap.size w0 w) (u0 u1 u2 u3 : Value) {W : World}
    (hW : ((((w.setCell ⟨z, 0, none⟩ u0).setCell ⟨z, 1, none⟩ u1).setCell ⟨z, 2, none⟩ u2).setCell ⟨z, 3, none⟩ u3).drew = W) :
    Below w0.heap.size w0 W ∧ W.cell? ⟨z, 0, none⟩ = some u0 ∧ W.cell? ⟨z, 1, none⟩ = some u1 ∧ W.cell? ⟨z, 2, none⟩ = some u2 ∧ W.cell? ⟨z, 3, none⟩ = some u3 := by
  rw [four_set hrow] at hW
  subst hW
  have h1 : (w.setRow z #[u0, u1, u2, u3]).drew.heap[z]? = some (.cells #[u0, u1, u2, u3] t (0, 0)) := setRow_heap w z _ _ _ _ hrow
  refine ⟨⟨hb.os, hb.tape, hb.output, by simpa using hb.size, fun b hlt => (setRow_other w z b _ (by omega)).trans (hb.block b hlt)⟩, ?_, ?_, ?_, ?_⟩
  · rw [cell_of_row _ _ 0 _ _ (0, 0) h1]; rfl
  · rw [cell_of_row _ _ 1 _ _ (0, 0) h1]; rfl
  · rw [cell_of_row _ _ 2 _ _ (0, 0) h1]; rfl
  · rw [cell_of_row _ _ 3 _ _ (0, 0) h1]; rfl

def OfV (r : Nat × Ob × Bool) : Value := .tuple #[.int .i64 (r.1 : Nat), oagg r.2.1, .bool r.2.2]
set_option maxRecDepth 100000 in
set_option maxHeartbeats 1000000 in
theorem of_any {w : World} {base h g c : Nat} {A : List Value} {H : Hp} (X : HpAt w base h g c A H) (a : Int) (ha : In64 a) :
    Calls Try.prog 16 #[.pointer (some ⟨h, 0, none⟩), .int .i64 a] w fun e w' => e = .returned (OfV (ofM H a)) ∧ Below w.heap.size w w' := by
  have HW := Lib.hid (fun o : Obj => word_any (X.below ((Below.refl _ w).alloc (Nat.le_refl _) o)) a ha)
  have HB := Lib.hid (fun o : Obj => (Below.refl w.heap.size w).alloc (Nat.le_refl _) o)
  unfold ofM
  cases hp : place H a with
  | none =>
    rw [hp] at HW
    unfold placeV at HW
    clear X ha hp
    unfold OfV oagg noOb
    go_enter Try.func16, Try.ntmps16
    go_wp2_with fail
    refine (HW.out _).mono ?_
    rintro e w2 ⟨rfl, rfl⟩
    go_wp2
    have hs1 : ∀ o : Obj, (w.alloc o).heap.size = w.heap.size + 1 := fun o => by simp
    refine bodyPost_ret (v := .tuple #[.int .i64 0, .agg #[.int .i64 0, .int .i64 0, .int .i64 0, .int .i64 0], .bool false]) ?_ rfl ⟨rfl, (HB.out _).alloc (by rw [hs1]; omega) _⟩
    simp [results, Try.results16, go_sem, four_c0, four_c1, four_c2, four_c3, alloc_cell]
  | some q =>
    obtain ⟨t, k⟩ := q
    rw [hp] at HW
    unfold placeV at HW
    obtain ⟨hk, -, ht, hkl⟩ := place_some hp
    obtain ⟨hc, hlt, hglt, h4⟩ := X.seen
    obtain ⟨B, d, hw, hd, -, hrow, h64⟩ := X.objects ht
    have hgood := X.good.get t
    obtain ⟨i, hi, h1, h2, h3⟩ := chained_find hgood.1 k (Nat.zero_le _) hkl
    have hho := holder_at hi h1 h3
    have hos : ∀ o ∈ (getM H t).os, o.at_ + o.size ≤ 64 := fun o ho => by have := (chained_end hgood.1 o ho).2.2; have := hgood.2; omega
    obtain ⟨gw, cap, hv, -, -, hgw, k0, k1, k2, k3⟩ := hrow.at_ i hi
    cases hv
    have HI := Lib.hid (fun (wx : World) (hb : Below w.heap.size w wx) (q : Nat) (hq : wx.cell? ⟨q, 0, none⟩ = some (.int .i64 (k : Nat))) (hqlt : q < wx.heap.size) =>
      index_any (w := wx) (ownsRow_keep hrow (fun b hb2 => hb.block b (World.ownsRow.lt hrow b hb2).2)) q k hq hqlt hos h64 i hi (fun j hj => by have := h1 j hj; omega) h3)
    dsimp only
    rw [hho]
    obtain ⟨x, hx⟩ : ∃ x, x = (getM H t).os[i] := ⟨_, rfl⟩
    rw [← hx] at k0 k1 k2 k3 ⊢
    have hcap := X.cap
    obtain ⟨n, hn⟩ : ∃ n, n = H.length := ⟨_, rfl⟩
    obtain ⟨m, hm⟩ : ∃ m, m = (getM H t).os.length := ⟨_, rfl⟩
    rw [← hn] at hc ht h4 hcap
    rw [← hm] at hw hd h64 hi HI
    have a0 := fun o : Obj => alloc_cell hc hlt o
    have a1 := fun o : Obj => alloc_cell hw hglt o
    have s0 : ∀ o : Obj, (w.alloc o).heap.size = w.heap.size + 1 := fun o => by simp
    have b0 := fun o o' : Obj => alloc_cell (a0 o) (by rw [s0]; show h < _; omega) o'
    have b1 := fun o o' : Obj => alloc_cell (a1 o) (by rw [s0]; show g < _; omega) o'
    have HB2 := Lib.hid (fun o o' : Obj => (HB.out o).alloc (by rw [s0]; omega) o')
    clear X ha hp hx hn hm hrow hgood h1 h2 h3 hho hos hkl
    obtain ⟨xa, xs, xf, xo⟩ := x
    dsimp only at k0 k1 k2 k3
    unfold OfV oagg
    dsimp only
    go_enter Try.func16, Try.ntmps16
    go_wp2_with fail
    refine (HW.out _).mono ?_
    rintro e w2 ⟨rfl, rfl⟩
    go_wp2_with fail
    have r1 := two_new w (.cells #[.int .i64 0, .int .i64 0, .int .i64 0, .int .i64 0] 45) #[.int .i64 (k : Nat)] 3
    have r0 := four_old w (.int .i64 0) (.int .i64 0) (.int .i64 0) (.int .i64 0) 45 (.cells #[.int .i64 (k : Nat)] 3)
    have hbx := HB2.out (.cells #[.int .i64 0, .int .i64 0, .int .i64 0, .int .i64 0] 45) (.cells #[.int .i64 (k : Nat)] 3)
    have hsz := two_size w (.cells #[.int .i64 0, .int .i64 0, .int .i64 0, .int .i64 0] 45) (.cells #[.int .i64 (k : Nat)] 3)
    generalize (w.alloc (.cells #[.int .i64 0, .int .i64 0, .int .i64 0, .int .i64 0] 45)).alloc (.cells #[.int .i64 (k : Nat)] 3) = V at r1 r0 hbx hsz ⊢
    refine (HI.out V hbx (w.heap.size + 1) (by rw [cell_of_row _ _ 0 _ _ (0, 0) r1]; rfl) (by omega)).mono ?_
    rintro e w3 ⟨rfl, hb3⟩
    have hr0 := (hb3.block w.heap.size (by omega)).trans r0
    have hbl := hbx.trans (hb3.mono hbx.size)
    have hs3 := hb3.size
    have j0 := (hbl.cell (p := ⟨gw, i * 4, none⟩) hgw).trans k0
    have j1 := (hbl.cell (p := ⟨gw, i * 4 + 1, none⟩) hgw).trans k1
    have j2 := (hbl.cell (p := ⟨gw, i * 4 + 2, none⟩) hgw).trans k2
    have j3 := (hbl.cell (p := ⟨gw, i * 4 + 3, none⟩) hgw).trans k3
    obtain ⟨z, hz⟩ : ∃ z, z = w.heap.size := ⟨_, rfl⟩
    have hgz : gw < z := by omega
    rw [← hz] at hr0 hsz ⊢
    have hzl : z < w3.heap.size := by omega
    have HBL := Lib.hid hbl
    have HZ := Lib.hid hz
    have HR0 := Lib.hid hr0
    have q0 := cell_of_row w3 z 0 _ _ (0, 0) hr0
    have q1 := cell_of_row w3 z 1 _ _ (0, 0) hr0
    have q2 := cell_of_row w3 z 2 _ _ (0, 0) hr0
    have q3 := cell_of_row w3 z 3 _ _ (0, 0) hr0
    simp at q0 q1 q2 q3
    have f0 := fun j => frozen_of_row w3 z j _ _ hr0
    clear HW HB HI HB2 hlt hglt hc hw a0 a1 s0 b0 b1 k0 k1 k2 k3 hbx hb3 hbl hs3 r1 r0 hsz hz hr0
    go_wp2
    go_region
    generalize hW : ((((w3.setCell ⟨z, 0, none⟩ (.int .i64 (xa : Nat))).setCell ⟨z, 1, none⟩ (.int .i64 (xs : Nat))).setCell ⟨z, 2, none⟩ (.int .i64 xf)).setCell ⟨z, 3, none⟩ (.int .i64 xo)).drew = W
    obtain ⟨g1, g2, g3, g4, g5⟩ := four_fin HR0.out HZ.out HBL.out _ _ _ _ hW
    clear hW q0 q1 q2 q3 f0 j0 j1 j2 j3
    have HG := Lib.hid g1
    clear g1
    go_wp2
    refine bodyPost_ret (v := .tuple #[.int .i64 (t : Nat), .agg #[.int .i64 (xa : Nat), .int .i64 (xs : Nat), .int .i64 xf, .int .i64 xo], .bool true]) ?_ rfl ⟨rfl, HG.out⟩
    simp [results, Try.results16, go_sem, g2, g3, g4, g5]

end Go.Proofs.Ytnplekfpncjnpaa
