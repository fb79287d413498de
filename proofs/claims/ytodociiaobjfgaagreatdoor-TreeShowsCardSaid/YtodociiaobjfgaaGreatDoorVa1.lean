/- Ve -/
import Derived.Test.YtodociiaobjfgaaGreatDoorVa2
set_option linter.unusedVariables false
set_option linter.unusedSimpArgs false
namespace Go.Proofs.YtodociiaobjfgaaGreatDoor
open Go.RowKit
section
theorem Xij {w : World} {g : Nat} {x : Value} {t : TypeId} (h : w.heap[g]? = some (.cells #[x] t (0, 0))) (u : Value) : (w.setCell ⟨g, 0, none⟩ u).heap[g]? = some (.cells #[u] t (0, 0)) := by
 simp [World.setCell, Array.getElem?_modify, h]
theorem Xap.grown {w w' : World} {Bc Ba base : Nat} {v : Value} {T : List (List UInt8)} (h : Xap w Bc Ba base v T) (hg : w.grownBy w' v.ownBlock) : w'.heap[Bc]? = w.heap[Bc]? ∧ w'.heap[Ba]? = w.heap[Ba]? :=
 ⟨hg.block Bc (Xab h.cnt) (fun e => h.nec e.symm), hg.block Ba (Xab h.buf) (fun e => h.nea e.symm)⟩
structure Xeg (w : World) (Bc Ba : Nat) (k : Nat) (v : Value) : Prop where
 c : w.heap[Bc]? = some (.cells #[.int .i64 k] 3 (0, 0))
 a : w.heap[Ba]? = some (.cells #[v] 62 (0, 0))
section
variable {w : World} {Bc Ba k : Nat} {v : Value}
theorem Xeg.cc (h : Xeg w Bc Ba k v) : w.cell? ⟨Bc, 0, none⟩ = some (.int .i64 k) := by rw [cell_of_row w Bc 0 _ _ (0, 0) h.c]; rfl
theorem Xeg.ca (h : Xeg w Bc Ba k v) : w.cell? ⟨Ba, 0, none⟩ = some v := by rw [cell_of_row w Ba 0 _ _ (0, 0) h.a]; rfl
theorem Xeg.fc (h : Xeg w Bc Ba k v) : w.frozen? ⟨Bc, 0, none⟩ = false := frozen_of_row w Bc 0 _ _ h.c
theorem Xeg.fa (h : Xeg w Bc Ba k v) : w.frozen? ⟨Ba, 0, none⟩ = false := frozen_of_row w Ba 0 _ _ h.a
theorem Xeg.seta (h : Xeg w Bc Ba k v) (hne : Bc ≠ Ba) (u : Value) : Xeg (w.setCell ⟨Ba, 0, none⟩ u) Bc Ba k u := ⟨(Below.heap_setCell _ _ _ _ hne).trans h.c, Xij h.a u⟩
theorem Xeg.setc (h : Xeg w Bc Ba k v) (hne : Bc ≠ Ba) (j : Nat) : Xeg (w.setCell ⟨Bc, 0, none⟩ (.int .i64 j)) Bc Ba j v := ⟨Xij h.c _, (Below.heap_setCell _ _ _ _ (fun e => hne e.symm)).trans h.a⟩
theorem Xeg.alloc (h : Xeg w Bc Ba k v) (o : Obj) : Xeg (w.alloc o) Bc Ba k v := ⟨(Below.heap_alloc _ _ _ (Xab h.c)).trans h.c, (Below.heap_alloc _ _ _ (Xab h.a)).trans h.a⟩
theorem Xeg.grown (h : Xeg w Bc Ba k v) {w' : World} {row : Option Nat} (hg : w.grownBy w' row) (h1 : row ≠ some Bc) (h2 : row ≠ some Ba) : Xeg w' Bc Ba k v :=
 ⟨(hg.block Bc (Xab h.c) (fun e => h1 e.symm)).trans h.c, (hg.block Ba (Xab h.a) (fun e => h2 e.symm)).trans h.a⟩
end
theorem Xjl (w : World) : (w.alloc (.cells #[.int .u8 32] 5)).cell? ⟨w.heap.size, 0, none⟩ = some (.int .u8 32) := by
 rw [cell_of_row _ w.heap.size 0 _ _ (0, 0) (heap_alloc_new w _)]; rfl
theorem Xlm {w wo w3 : World} {Bc Ba base k : Nat} {v u v3 x : Value} {T1 : List (List UInt8)} {t : List UInt8} (h : Went w Bc Ba base v wo u T1) (hg : Chg (Mine Bc Ba u) wo w3) (hc : Xeg w3 Bc Ba k x) (hown : Xas w3 base v3 (Xbj (T1 ++ [t])))
  (hat : ∀ b, v3.ownBlock = some b → u.ownBlock = some b ∨ wo.heap.size ≤ b) (hf : fits (T1 ++ [t])) : Went w Bc Ba base v ((w3.setCell ⟨Ba, 0, none⟩ v3).setCell ⟨Bc, 0, none⟩ (.int .i64 (T1 ++ [t]).length)) v3 (T1 ++ [t]) := by
 have hne := h.1.ne
 have hf1 := (hc.seta hne v3).setc hne (T1 ++ [t]).length
 have hb3 : ∀ g, v3.ownBlock = some g → g ≠ Bc ∧ g ≠ Ba := fun g hg' => by
  obtain ⟨_, cur, hg2⟩ := hown.blk hg'
  refine ⟨fun e => ?_, fun e => ?_⟩
  · subst e; have := hc.c; rw [hg2] at this; simp at this
  · subst e; have := hc.a; rw [hg2] at this; simp at this
 have hown' : Xas ((w3.setCell ⟨Ba, 0, none⟩ v3).setCell ⟨Bc, 0, none⟩ (.int .i64 (T1 ++ [t]).length)) base v3 (Xbj (T1 ++ [t])) :=
  hown.keep fun g hg' => (Below.heap_setCell _ _ _ _ (hb3 g hg').1).trans (Below.heap_setCell _ _ _ _ (hb3 g hg').2)
 refine ⟨⟨hf1.c, hf1.a, hown', hf, h.1.bc, h.1.ba⟩, fun b hb => ?_, ?_⟩
 · rcases hat b hb with h1 | h1
   · exact h.2.1 b h1
   · have := h.2.2.size; exact .inr (by omega)
 · exact ((h.fell hg).setCell _ _ fun _ => .inr (.inl rfl)).setCell _ _ fun _ => .inl rfl
theorem Xhk {w wo w3 : World} {Bc Ba base : Nat} {v u v3 x : Value} {T1 : List (List UInt8)} (h : Went w Bc Ba base v wo u T1) (hg : Chg (Mine Bc Ba u) wo w3) :
  Chg (Mine Bc Ba v) w ((w3.setCell ⟨Ba, 0, none⟩ v3).setCell ⟨Bc, 0, none⟩ x) :=
 ((h.fell hg).setCell _ _ fun _ => .inr (.inl rfl)).setCell _ _ fun _ => .inl rfl
theorem Xvc {w : World} {Bc Ba k base : Nat} {x v : Value} {l : List UInt8} (hc : Xeg w Bc Ba k x) (hown : Xas w base v l) : v.ownBlock ≠ some Bc ∧ v.ownBlock ≠ some Ba := by
 refine ⟨fun e => ?_, fun e => ?_⟩
 · obtain ⟨_, cur, hg2⟩ := hown.blk e
   have := hc.c; rw [hg2] at this; simp at this
 · obtain ⟨_, cur, hg2⟩ := hown.blk e
   have := hc.a; rw [hg2] at this; simp at this
theorem Xpk {w : World} {Ba base : Nat} {v : Value} {l : List UInt8} (hown : Xas w base v l) (h : v.ownBlock ≠ some Ba) (u : Value) : Xas (w.setCell ⟨Ba, 0, none⟩ u) base v l :=
 hown.keep fun g hg => Below.heap_setCell _ _ _ _ (fun e => by subst e; exact h hg)
theorem adv_take {T ts : List (List UInt8)} {j : Nat} (hj : j < ts.length) : T ++ ts.take (j + 1) = (T ++ ts.take j) ++ [ts[j]] := by
 rw [List.take_succ_eq_append_getElem hj, List.append_assoc]
theorem adv_stop {T ts : List (List UInt8)} {j : Nat} (h : ¬ fits (T ++ ts.take j)) : adv T (some ts) = none := by
 rw [Xep, if_neg]
 intro hf
 rw [← List.take_append_drop j ts, ← List.append_assoc] at hf
 exact h (Xgy hf)
theorem adv_full {T ts : List (List UInt8)} {j : Nat} (h : fits (T ++ ts.take j)) (hj : ts.length ≤ j) : adv T (some ts) = some (T ++ ts) := by
 rw [List.take_of_length_le hj] at h
 rw [Xep, if_pos h]
set_option maxRecDepth 100000 in
set_option maxHeartbeats 2000000 in
theorem Xmd {w : World} {Bc Ba base : Nat} {v : Value} {T : List (List UInt8)} (hp : Xap w Bc Ba base v T) (hbase : base ≤ w.heap.size) (ts : List (List UInt8)) (tv : Value) (hts : Xed w (Mine Bc Ba v) tv ts) :
  Calls Tryz.prog 27 #[tv, .pointer (some ⟨Bc, 0, none⟩), .pointer (some ⟨Ba, 0, none⟩)] w (Xal w Bc Ba base v (adv T (some ts))) := by
 obtain ⟨A, c, rfl, hc1, hc2, hcell⟩ := hts
 obtain ⟨n, hn⟩ : ∃ n, n = ts.length := ⟨_, rfl⟩
 rw [← hn] at hc1 ⊢
 have HN := lh hn
 have HP := lh hp
 have HC := lh hcell
 have HB := lh hbase
 clear hp hcell hn hbase
 go_enter Tryz.func27, Tryz.ntmps27
 go_wp2
 go_loopw [8] (fun i wr => ∃ (j : Nat) (u : Value), j ≤ n ∧ i = .int .i64 j ∧ Hid (Went w Bc Ba base v wr u (T ++ ts.take j))) (fun i _ => n - (intOf i).toNat)
 case atStart => exact ⟨0, v, Nat.zero_le _, rfl, lh (by rw [List.take_zero, List.append_nil]; exact Went.refl HP.out)⟩
 case round =>
  obtain ⟨wo, rfl⟩ : ∃ wo : World, wo = wr := ⟨_, rfl⟩
  obtain ⟨j, u, hj, rfl, HW⟩ := hrel
  by_cases hlt : j < n
  · have hjt : j < ts.length := by rw [← HN.out]; exact hlt
    obtain ⟨b, off, rfl, hnb, hl4, p0⟩ := HC.out j hjt
    have p0 := HW.out.2.2.cell p0 hnb
    have hat := adv_take (T := T) hjt
    have hstop := fun h => adv_stop (T := T) (ts := ts) (j := j + 1) h
    rw [hat] at hstop
    obtain ⟨t, ht⟩ : ∃ t, t = ts[j] := ⟨_, rfl⟩
    rw [← ht] at hl4 p0 hat hstop
    obtain ⟨T1, hT1⟩ : ∃ T1, T1 = T ++ ts.take j := ⟨_, rfl⟩
    rw [← hT1] at hat HW hstop
    obtain ⟨Au, cu, hu⟩ := HW.out.1.own.form
    subst hu
    obtain ⟨L1, hL1⟩ : ∃ L, L = (Xbj T1).length := ⟨_, rfl⟩
    obtain ⟨C1, hC1⟩ : ∃ C, C = T1.length := ⟨_, rfl⟩
    rw [← hL1] at HW
    have hcl : Xeg wo Bc Ba C1 (.slice Au L1 cu) := by
     refine ⟨?_, HW.out.1.buf⟩
     rw [hC1]; exact HW.out.1.cnt
    have qc := hcl.cc
    have qa := hcl.ca
    have zc := hcl.fc
    have za := hcl.fa
    have hf1 := HW.out.1.fit
    have hC4 : C1 ≤ 4096 := by rw [hC1]; exact hf1.2
    have hL4 : L1 ≤ 16384 := by rw [hL1]; exact hf1.1
    have hbw : base ≤ wo.heap.size := Nat.le_trans HB.out HW.out.2.2.size
    have hne : Bc ≠ Ba := HW.out.1.ne
    have hsl : (T1 ++ [t]).length = C1 + 1 := by rw [List.length_append, ← hC1]; rfl
    have hjn := Xla T1 t
    obtain ⟨L3, hL3⟩ : ∃ L, L = (Xbj (T1 ++ [t])).length := ⟨_, rfl⟩
    have HL3 := lh hL3
    clear hL3
    have HCL := lh hcl
    have HL1 := lh hL1
    have HC1 := lh hC1
    have HAT := lh hat
    have HJ := lh hjn
    have HL4 := lh hl4
    have HST := lh hstop
    have HNE := lh hne
    have HSL := lh hsl
    have HBW := lh hbw
    have HC4 := lh hC4
    have HLL := lh hL4
    have HO := lh HW.out.1.own
    have hn1 := HW.out.1.nec
    have hn2 := HW.out.1.nea
    have HN1 := lh hn1
    have HN2 := lh hn2
    have hwr : wrap64 ((C1 : Int) + 1) = (C1 : Int) + 1 := by have := HC4.out; exact IntWalk.wrap64_in _ ⟨by omega, by omega⟩
    clear hL1 hC1 hat hl4 ht hT1 hcl hjn hstop hne hsl hbw hf1 hC4 hL4 hn1 hn2
    have hfc : fits (T1 ++ [t]) ↔ L3 ≤ 16384 ∧ C1 + 1 ≤ 4096 := by unfold fits; rw [← HL3.out, HSL.out]
    have HFC := lh hfc
    clear hfc
    by_cases h0 : C1 = 0
    · have hpo : ¬ 0 < C1 := by omega
      have hT0 : T1 = [] := List.eq_nil_of_length_eq_zero (HC1.out.symm.trans h0)
      have HJ0 : Hid (Xbj (T1 ++ [t]) = Xbj T1 ++ t) := lh (by rw [HJ.out, if_pos hT0, List.append_nil])
      clear hT0 h0
      by_cases hA : L3 ≤ 16384
      · by_cases hC : C1 + 1 ≤ 4096
        · have hD : decide ((C1 : Int) + 1 ≤ 4096) = true := by rw [decide_eq_true_eq]; omega
          have HF : Hid (fits (T1 ++ [t])) := lh (HFC.out.2 ⟨hA, hC⟩)
          clear hC
          go_wp2_with (at_builtin; refine Xbk rfl _ _ rfl base (.slice Au L1 cu) (Xbj T1) rfl HO.out t rfl (by rw [← HL1.out]; have := HL4.out; have := HLL.out; omega) HBW.out ?_; intro v3 w3 hown3 hgr3 hat3; rw [← HJ0.out] at hown3; obtain ⟨A3, c3, hv3⟩ := hown3.form; rw [← HL3.out] at hv3; subst hv3; have hcl3 := HCL.out.grown hgr3 HN1.out HN2.out; have hcl4 := hcl3.seta HNE.out (.slice A3 L3 c3); have hcl5 := hcl4.setc HNE.out (C1 + 1); have qc3 := hcl3.cc; have qa3 := hcl3.ca; have zc3 := hcl3.fc; have za3 := hcl3.fa; have q4c := hcl4.cc; have q4a := hcl4.ca; have z4c := hcl4.fc; have q5c : ((w3.setCell ⟨Ba, 0, none⟩ (.slice A3 L3 c3)).setCell ⟨Bc, 0, none⟩ (.int .i64 ((C1 : Int) + 1))).cell? ⟨Bc, 0, none⟩ = some (.int .i64 ((C1 : Int) + 1)) := hcl5.cc; have q5a : ((w3.setCell ⟨Ba, 0, none⟩ (.slice A3 L3 c3)).setCell ⟨Bc, 0, none⟩ (.int .i64 ((C1 : Int) + 1))).cell? ⟨Ba, 0, none⟩ = some (.slice A3 L3 c3) := hcl5.ca; have HCL3 := lh hcl3; have HOW3 := lh hown3; have HAT3 := lh hat3; have HGR3 := lh hgr3; clear hcl3 hcl4 hcl5 hown3 hat3 hgr3)
          refine (Xaj _).mono ?_
          rintro e w4 ⟨rfl, rfl⟩
          go_wp2
          go_roundw
          case rel =>
           have hfin := Xlm HW.out ((Chg.refl _ wo).grown HGR3.out (fun k _ hr => .inr (.inr hr))) HCL3.out HOW3.out (fun b hb => by rcases HAT3.out with h | h; (rw [h] at hb; exact .inl hb); (rw [h] at hb; have hb := Option.some.inj hb; right; omega)) HF.out
           rw [HSL.out] at hfin
           exact ⟨j + 1, .slice A3 L3 c3, by omega, by go_num, lh (by rw [HAT.out]; exact hfin)⟩
          case measure => simp [intOf]; omega
        · have hD : decide ((C1 : Int) + 1 ≤ 4096) = false := by rw [decide_eq_false_iff_not]; omega
          have HF : Hid (¬ fits (T1 ++ [t])) := lh (fun h => hC (HFC.out.1 h).2)
          clear hC
          go_wp2_with (at_builtin; refine Xbk rfl _ _ rfl base (.slice Au L1 cu) (Xbj T1) rfl HO.out t rfl (by rw [← HL1.out]; have := HL4.out; have := HLL.out; omega) HBW.out ?_; intro v3 w3 hown3 hgr3 hat3; rw [← HJ0.out] at hown3; obtain ⟨A3, c3, hv3⟩ := hown3.form; rw [← HL3.out] at hv3; subst hv3; have hcl3 := HCL.out.grown hgr3 HN1.out HN2.out; have hcl4 := hcl3.seta HNE.out (.slice A3 L3 c3); have hcl5 := hcl4.setc HNE.out (C1 + 1); have qc3 := hcl3.cc; have qa3 := hcl3.ca; have zc3 := hcl3.fc; have za3 := hcl3.fa; have q4c := hcl4.cc; have q4a := hcl4.ca; have z4c := hcl4.fc; have q5c : ((w3.setCell ⟨Ba, 0, none⟩ (.slice A3 L3 c3)).setCell ⟨Bc, 0, none⟩ (.int .i64 ((C1 : Int) + 1))).cell? ⟨Bc, 0, none⟩ = some (.int .i64 ((C1 : Int) + 1)) := hcl5.cc; have q5a : ((w3.setCell ⟨Ba, 0, none⟩ (.slice A3 L3 c3)).setCell ⟨Bc, 0, none⟩ (.int .i64 ((C1 : Int) + 1))).cell? ⟨Ba, 0, none⟩ = some (.slice A3 L3 c3) := hcl5.ca; have HCL3 := lh hcl3; have HOW3 := lh hown3; have HAT3 := lh hat3; have HGR3 := lh hgr3; clear hcl3 hcl4 hcl5 hown3 hat3 hgr3)
          refine (Xah _).mono ?_
          rintro e w4 ⟨rfl, rfl⟩
          unfold boom
          go_wp2
          show _ ∧ _
          refine ⟨rfl, ?_⟩
          rw [HST.out HF.out]
          exact ⟨rfl, Xhk HW.out ((Chg.refl _ wo).grown HGR3.out (fun k _ hr => .inr (.inr hr)))⟩
      · have HF : Hid (¬ fits (T1 ++ [t])) := lh (fun h => hA (HFC.out.1 h).1)
        go_wp2_with (at_builtin; refine Xbk rfl _ _ rfl base (.slice Au L1 cu) (Xbj T1) rfl HO.out t rfl (by rw [← HL1.out]; have := HL4.out; have := HLL.out; omega) HBW.out ?_; intro v3 w3 hown3 hgr3 hat3; rw [← HJ0.out] at hown3; obtain ⟨A3, c3, hv3⟩ := hown3.form; rw [← HL3.out] at hv3; subst hv3; have hcl3 := HCL.out.grown hgr3 HN1.out HN2.out; have hcl4 := hcl3.seta HNE.out (.slice A3 L3 c3); have hcl5 := hcl4.setc HNE.out (C1 + 1); have qc3 := hcl3.cc; have qa3 := hcl3.ca; have zc3 := hcl3.fc; have za3 := hcl3.fa; have q4c := hcl4.cc; have q4a := hcl4.ca; have z4c := hcl4.fc; have q5c : ((w3.setCell ⟨Ba, 0, none⟩ (.slice A3 L3 c3)).setCell ⟨Bc, 0, none⟩ (.int .i64 ((C1 : Int) + 1))).cell? ⟨Bc, 0, none⟩ = some (.int .i64 ((C1 : Int) + 1)) := hcl5.cc; have q5a : ((w3.setCell ⟨Ba, 0, none⟩ (.slice A3 L3 c3)).setCell ⟨Bc, 0, none⟩ (.int .i64 ((C1 : Int) + 1))).cell? ⟨Ba, 0, none⟩ = some (.slice A3 L3 c3) := hcl5.ca; have HCL3 := lh hcl3; have HOW3 := lh hown3; have HAT3 := lh hat3; have HGR3 := lh hgr3; clear hcl3 hcl4 hcl5 hown3 hat3 hgr3)
        refine (Xah _).mono ?_
        rintro e w4 ⟨rfl, rfl⟩
        unfold boom
        go_wp2
        show _ ∧ _
        refine ⟨rfl, ?_⟩
        rw [HST.out HF.out]
        exact ⟨rfl, Xhk HW.out ((Chg.refl _ wo).grown HGR3.out (fun k _ hr => .inr (.inr hr)))⟩
    · have hpo : 0 < C1 := by omega
      have hT0 : T1 ≠ [] := fun e => h0 (by rw [HC1.out, e]; rfl)
      have HJ0 : Hid (Xbj (T1 ++ [t]) = (Xbj T1 ++ [32]) ++ t) := lh (by rw [HJ.out, if_neg hT0])
      have HH0 := lh h0
      clear hT0 h0
      by_cases hA : L3 ≤ 16384
      · by_cases hC : C1 + 1 ≤ 4096
        · have hD : decide ((C1 : Int) + 1 ≤ 4096) = true := by rw [decide_eq_true_eq]; omega
          have HF : Hid (fits (T1 ++ [t])) := lh (HFC.out.2 ⟨hA, hC⟩)
          clear hC
          go_wp2_with (first | (at_builtin; refine Xdi rfl _ _ rfl base (.slice Au L1 cu) (Xbj T1) rfl (HO.out.alloc _) wo.heap.size 1 rfl (Xjl wo) (by rw [← HL1.out]; have := HLL.out; omega) (by have := HBW.out; simp; omega) ?_; intro v2 w2 hown2 hgr2 hat2; obtain ⟨A2, c2, hv2⟩ := hown2.form; rw [List.length_append, List.length_singleton, ← HL1.out] at hv2; subst hv2; have hcl2 := (HCL.out.alloc (.cells #[.int .u8 32] 5)).grown hgr2 HN1.out HN2.out; have qc2 := hcl2.cc; have qa2 := hcl2.ca; have zc2 := hcl2.fc; have za2 := hcl2.fa; have HCL2 := lh hcl2; have hcl6 := hcl2.seta HNE.out (.slice A2 (L1 + 1) c2); have HCL6 := lh hcl6; have q6c := hcl6.cc; have q6a := hcl6.ca; have z6c := hcl6.fc; have z6a := hcl6.fa; have hnb2 := Xvc hcl2 hown2; have HO6 := lh (Xpk hown2 hnb2.2 (.slice A2 (L1 + 1) c2)); have HN6 := lh hnb2; clear hcl2 hcl6 hnb2) | (at_builtin; refine Xbk rfl _ _ rfl base (.slice A2 (L1 + 1) c2) (Xbj T1 ++ [32]) rfl HO6.out t rfl (by rw [List.length_append, List.length_singleton, ← HL1.out]; have := HL4.out; have := HLL.out; omega) (by have := HBW.out; have := hgr2.size; simp at this ⊢; omega) ?_; intro v3 w3 hown3 hgr3 hat3; rw [← HJ0.out] at hown3; obtain ⟨A3, c3, hv3⟩ := hown3.form; rw [← HL3.out] at hv3; subst hv3; have hcl3 := HCL6.out.grown hgr3 HN6.out.1 HN6.out.2; have hcl4 := hcl3.seta HNE.out (.slice A3 L3 c3); have hcl5 := hcl4.setc HNE.out (C1 + 1); have qc3 := hcl3.cc; have qa3 := hcl3.ca; have zc3 := hcl3.fc; have za3 := hcl3.fa; have q4c := hcl4.cc; have q4a := hcl4.ca; have z4c := hcl4.fc; have q5c : ((w3.setCell ⟨Ba, 0, none⟩ (.slice A3 L3 c3)).setCell ⟨Bc, 0, none⟩ (.int .i64 ((C1 : Int) + 1))).cell? ⟨Bc, 0, none⟩ = some (.int .i64 ((C1 : Int) + 1)) := hcl5.cc; have q5a : ((w3.setCell ⟨Ba, 0, none⟩ (.slice A3 L3 c3)).setCell ⟨Bc, 0, none⟩ (.int .i64 ((C1 : Int) + 1))).cell? ⟨Ba, 0, none⟩ = some (.slice A3 L3 c3) := hcl5.ca; have HCL3 := lh hcl3; have HOW3 := lh hown3; have HAT3 := lh hat3; have HGR3 := lh hgr3; clear hcl3 hcl4 hcl5 hown3 hat3 hgr3))
          refine (Xaj _).mono ?_
          rintro e w4 ⟨rfl, rfl⟩
          go_wp2
          go_roundw
          case rel =>
           have hfin := Xlm HW.out (((((Chg.refl _ wo).alloc _).grown hgr2 (fun k _ hr => .inr (.inr hr))).setCell _ _ (fun _ => .inr (.inl rfl))).grown HGR3.out (fun k hk hr => by rcases hat2 with h | h; (rw [h] at hr; exact .inr (.inr hr)); (rw [h] at hr; have hr := Option.some.inj hr; simp at hr; omega))) HCL3.out HOW3.out (fun b hb => by have hs2 := hgr2.size; simp at hs2; rcases HAT3.out with h | h; (rw [h] at hb; rcases hat2 with h2 | h2; (rw [h2] at hb; exact .inl hb); (rw [h2] at hb; have hb := Option.some.inj hb; simp at hb; right; omega)); (rw [h] at hb; have hb := Option.some.inj hb; simp at hb; right; omega)) HF.out
           rw [HSL.out] at hfin
           exact ⟨j + 1, .slice A3 L3 c3, by omega, by go_num, lh (by rw [HAT.out]; exact hfin)⟩
          case measure => simp [intOf]; omega
        · have hD : decide ((C1 : Int) + 1 ≤ 4096) = false := by rw [decide_eq_false_iff_not]; omega
          have HF : Hid (¬ fits (T1 ++ [t])) := lh (fun h => hC (HFC.out.1 h).2)
          clear hC
          go_wp2_with (first | (at_builtin; refine Xdi rfl _ _ rfl base (.slice Au L1 cu) (Xbj T1) rfl (HO.out.alloc _) wo.heap.size 1 rfl (Xjl wo) (by rw [← HL1.out]; have := HLL.out; omega) (by have := HBW.out; simp; omega) ?_; intro v2 w2 hown2 hgr2 hat2; obtain ⟨A2, c2, hv2⟩ := hown2.form; rw [List.length_append, List.length_singleton, ← HL1.out] at hv2; subst hv2; have hcl2 := (HCL.out.alloc (.cells #[.int .u8 32] 5)).grown hgr2 HN1.out HN2.out; have qc2 := hcl2.cc; have qa2 := hcl2.ca; have zc2 := hcl2.fc; have za2 := hcl2.fa; have HCL2 := lh hcl2; have hcl6 := hcl2.seta HNE.out (.slice A2 (L1 + 1) c2); have HCL6 := lh hcl6; have q6c := hcl6.cc; have q6a := hcl6.ca; have z6c := hcl6.fc; have z6a := hcl6.fa; have hnb2 := Xvc hcl2 hown2; have HO6 := lh (Xpk hown2 hnb2.2 (.slice A2 (L1 + 1) c2)); have HN6 := lh hnb2; clear hcl2 hcl6 hnb2) | (at_builtin; refine Xbk rfl _ _ rfl base (.slice A2 (L1 + 1) c2) (Xbj T1 ++ [32]) rfl HO6.out t rfl (by rw [List.length_append, List.length_singleton, ← HL1.out]; have := HL4.out; have := HLL.out; omega) (by have := HBW.out; have := hgr2.size; simp at this ⊢; omega) ?_; intro v3 w3 hown3 hgr3 hat3; rw [← HJ0.out] at hown3; obtain ⟨A3, c3, hv3⟩ := hown3.form; rw [← HL3.out] at hv3; subst hv3; have hcl3 := HCL6.out.grown hgr3 HN6.out.1 HN6.out.2; have hcl4 := hcl3.seta HNE.out (.slice A3 L3 c3); have hcl5 := hcl4.setc HNE.out (C1 + 1); have qc3 := hcl3.cc; have qa3 := hcl3.ca; have zc3 := hcl3.fc; have za3 := hcl3.fa; have q4c := hcl4.cc; have q4a := hcl4.ca; have z4c := hcl4.fc; have q5c : ((w3.setCell ⟨Ba, 0, none⟩ (.slice A3 L3 c3)).setCell ⟨Bc, 0, none⟩ (.int .i64 ((C1 : Int) + 1))).cell? ⟨Bc, 0, none⟩ = some (.int .i64 ((C1 : Int) + 1)) := hcl5.cc; have q5a : ((w3.setCell ⟨Ba, 0, none⟩ (.slice A3 L3 c3)).setCell ⟨Bc, 0, none⟩ (.int .i64 ((C1 : Int) + 1))).cell? ⟨Ba, 0, none⟩ = some (.slice A3 L3 c3) := hcl5.ca; have HCL3 := lh hcl3; have HOW3 := lh hown3; have HAT3 := lh hat3; have HGR3 := lh hgr3; clear hcl3 hcl4 hcl5 hown3 hat3 hgr3))
          refine (Xah _).mono ?_
          rintro e w4 ⟨rfl, rfl⟩
          unfold boom
          go_wp2
          show _ ∧ _
          refine ⟨rfl, ?_⟩
          rw [HST.out HF.out]
          exact ⟨rfl, Xhk HW.out (((((Chg.refl _ wo).alloc _).grown hgr2 (fun k _ hr => .inr (.inr hr))).setCell _ _ (fun _ => .inr (.inl rfl))).grown HGR3.out (fun k hk hr => by rcases hat2 with h | h; (rw [h] at hr; exact .inr (.inr hr)); (rw [h] at hr; have hr := Option.some.inj hr; simp at hr; omega)))⟩
      · have HF : Hid (¬ fits (T1 ++ [t])) := lh (fun h => hA (HFC.out.1 h).1)
        go_wp2_with (first | (at_builtin; refine Xdi rfl _ _ rfl base (.slice Au L1 cu) (Xbj T1) rfl (HO.out.alloc _) wo.heap.size 1 rfl (Xjl wo) (by rw [← HL1.out]; have := HLL.out; omega) (by have := HBW.out; simp; omega) ?_; intro v2 w2 hown2 hgr2 hat2; obtain ⟨A2, c2, hv2⟩ := hown2.form; rw [List.length_append, List.length_singleton, ← HL1.out] at hv2; subst hv2; have hcl2 := (HCL.out.alloc (.cells #[.int .u8 32] 5)).grown hgr2 HN1.out HN2.out; have qc2 := hcl2.cc; have qa2 := hcl2.ca; have zc2 := hcl2.fc; have za2 := hcl2.fa; have HCL2 := lh hcl2; have hcl6 := hcl2.seta HNE.out (.slice A2 (L1 + 1) c2); have HCL6 := lh hcl6; have q6c := hcl6.cc; have q6a := hcl6.ca; have z6c := hcl6.fc; have z6a := hcl6.fa; have hnb2 := Xvc hcl2 hown2; have HO6 := lh (Xpk hown2 hnb2.2 (.slice A2 (L1 + 1) c2)); have HN6 := lh hnb2; clear hcl2 hcl6 hnb2) | (at_builtin; refine Xbk rfl _ _ rfl base (.slice A2 (L1 + 1) c2) (Xbj T1 ++ [32]) rfl HO6.out t rfl (by rw [List.length_append, List.length_singleton, ← HL1.out]; have := HL4.out; have := HLL.out; omega) (by have := HBW.out; have := hgr2.size; simp at this ⊢; omega) ?_; intro v3 w3 hown3 hgr3 hat3; rw [← HJ0.out] at hown3; obtain ⟨A3, c3, hv3⟩ := hown3.form; rw [← HL3.out] at hv3; subst hv3; have hcl3 := HCL6.out.grown hgr3 HN6.out.1 HN6.out.2; have hcl4 := hcl3.seta HNE.out (.slice A3 L3 c3); have hcl5 := hcl4.setc HNE.out (C1 + 1); have qc3 := hcl3.cc; have qa3 := hcl3.ca; have zc3 := hcl3.fc; have za3 := hcl3.fa; have q4c := hcl4.cc; have q4a := hcl4.ca; have z4c := hcl4.fc; have q5c : ((w3.setCell ⟨Ba, 0, none⟩ (.slice A3 L3 c3)).setCell ⟨Bc, 0, none⟩ (.int .i64 ((C1 : Int) + 1))).cell? ⟨Bc, 0, none⟩ = some (.int .i64 ((C1 : Int) + 1)) := hcl5.cc; have q5a : ((w3.setCell ⟨Ba, 0, none⟩ (.slice A3 L3 c3)).setCell ⟨Bc, 0, none⟩ (.int .i64 ((C1 : Int) + 1))).cell? ⟨Ba, 0, none⟩ = some (.slice A3 L3 c3) := hcl5.ca; have HCL3 := lh hcl3; have HOW3 := lh hown3; have HAT3 := lh hat3; have HGR3 := lh hgr3; clear hcl3 hcl4 hcl5 hown3 hat3 hgr3))
        refine (Xah _).mono ?_
        rintro e w4 ⟨rfl, rfl⟩
        unfold boom
        go_wp2
        show _ ∧ _
        refine ⟨rfl, ?_⟩
        rw [HST.out HF.out]
        exact ⟨rfl, Xhk HW.out (((((Chg.refl _ wo).alloc _).grown hgr2 (fun k _ hr => .inr (.inr hr))).setCell _ _ (fun _ => .inr (.inl rfl))).grown HGR3.out (fun k hk hr => by rcases hat2 with h | h; (rw [h] at hr; exact .inr (.inr hr)); (rw [h] at hr; have hr := Option.some.inj hr; simp at hr; omega)))⟩
  · have hjn : j = n := by omega
    subst hjn
    go_wp2
    go_end0
    have hfull := adv_full HW.out.1.fit (by rw [← HN.out]; exact Nat.le_refl _)
    rw [hfull]
    refine ⟨rfl, u, ?_⟩
    have h := HW.out
    rw [List.take_of_length_le (by rw [← HN.out]; exact Nat.le_refl _)] at h
    exact h
end
end Go.Proofs.YtodociiaobjfgaaGreatDoor
