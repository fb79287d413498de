/- Ve; Vf; Vs; Vg; Vh; Vj -/
import Derived.Test.YtmbkjabjcphkbaaDoorZa2
import Derived.Shelf.Small.Strs
import Derived.Shelf.Small.Wraps
import Derived.Shelf.Strconv.Itoa0
import Derived.Shelf.Strconv.Itoa1
import Derived.Shelf.LaysM
import Derived.Shelf.Strconv.Itoa2
import Derived.Shelf.Strconv.Itoa3
import Derived.Shelf.Strconv.Clone
import Derived.Shelf.Strings.Search1
import Derived.Shelf.Strings.Prefix
import Derived.Shelf.Slices.Turned
import Derived.Test.YtmbkjabjcphkbaaDoorRows
import Derived.Lib.AppendIntMem
section
/- The walk of the pen's closure: tokens are written. -/
set_option linter.unusedVariables false
namespace Go.Proofs.YtmbkjabjcphkbaaDoor
open Go.RowKit

theorem set_one {w : World} {g : Nat} {x : Value} {t : TypeId} (h : w.heap[g]? = some (.cells #[x] t (0, 0))) (u : Value) : (w.setCell ⟨g, 0, none⟩ u).heap[g]? = some (.cells #[u] t (0, 0)) := by
  simp [World.setCell, Array.getElem?_modify, h]
theorem PenAt.grown {w w' : World} {Bc Ba base : Nat} {v : Value} {T : List (List UInt8)} (h : PenAt w Bc Ba base v T) (hg : w.grownBy w' v.ownBlock) : w'.heap[Bc]? = w.heap[Bc]? ∧ w'.heap[Ba]? = w.heap[Ba]? :=
  ⟨hg.block Bc (lt_of_heap h.cnt) (fun e => h.nec e.symm), hg.block Ba (lt_of_heap h.buf) (fun e => h.nea e.symm)⟩
/-- the cells of the pen's two blocks -/
structure Cells (w : World) (Bc Ba : Nat) (k : Nat) (v : Value) : Prop where
  c : w.heap[Bc]? = some (.cells #[.int .i64 k] 3 (0, 0))
  a : w.heap[Ba]? = some (.cells #[v] 69 (0, 0))
section
variable {w : World} {Bc Ba k : Nat} {v : Value}
theorem Cells.cc (h : Cells w Bc Ba k v) : w.cell? ⟨Bc, 0, none⟩ = some (.int .i64 k) := by rw [cell_of_row w Bc 0 _ _ (0, 0) h.c]; rfl
theorem Cells.ca (h : Cells w Bc Ba k v) : w.cell? ⟨Ba, 0, none⟩ = some v := by rw [cell_of_row w Ba 0 _ _ (0, 0) h.a]; rfl
theorem Cells.fc (h : Cells w Bc Ba k v) : w.frozen? ⟨Bc, 0, none⟩ = false := frozen_of_row w Bc 0 _ _ h.c
theorem Cells.fa (h : Cells w Bc Ba k v) : w.frozen? ⟨Ba, 0, none⟩ = false := frozen_of_row w Ba 0 _ _ h.a
theorem Cells.seta (h : Cells w Bc Ba k v) (hne : Bc ≠ Ba) (u : Value) : Cells (w.setCell ⟨Ba, 0, none⟩ u) Bc Ba k u := ⟨(Below.heap_setCell _ _ _ _ hne).trans h.c, set_one h.a u⟩
theorem Cells.setc (h : Cells w Bc Ba k v) (hne : Bc ≠ Ba) (j : Nat) : Cells (w.setCell ⟨Bc, 0, none⟩ (.int .i64 j)) Bc Ba j v := ⟨set_one h.c _, (Below.heap_setCell _ _ _ _ (fun e => hne e.symm)).trans h.a⟩
theorem Cells.alloc (h : Cells w Bc Ba k v) (o : Obj) : Cells (w.alloc o) Bc Ba k v := ⟨(Below.heap_alloc _ _ _ (lt_of_heap h.c)).trans h.c, (Below.heap_alloc _ _ _ (lt_of_heap h.a)).trans h.a⟩
theorem Cells.grown (h : Cells w Bc Ba k v) {w' : World} {row : Option Nat} (hg : w.grownBy w' row) (h1 : row ≠ some Bc) (h2 : row ≠ some Ba) : Cells w' Bc Ba k v :=
  ⟨(hg.block Bc (lt_of_heap h.c) (fun e => h1 e.symm)).trans h.c, (hg.block Ba (lt_of_heap h.a) (fun e => h2 e.symm)).trans h.a⟩
end
theorem one_blank (w : World) : (w.alloc (.cells #[.int .u8 32] 5)).cell? ⟨w.heap.size, 0, none⟩ = some (.int .u8 32) := by
  rw [cell_of_row _ w.heap.size 0 _ _ (0, 0) (heap_alloc_new w _)]; rfl
/-- behind a token: its count and its text are stored -/
theorem went_token {w wo w3 : World} {Bc Ba base k : Nat} {v u v3 x : Value} {T1 : List (List UInt8)} {t : List UInt8} (h : Went w Bc Ba base v wo u T1) (hg : Chg (Mine Bc Ba u) wo w3) (hc : Cells w3 Bc Ba k x) (hown : OwnBytes w3 base v3 (joinT (T1 ++ [t])))
    (hat : ∀ b, v3.ownBlock = some b → u.ownBlock = some b ∨ wo.heap.size ≤ b) (hf : fits (T1 ++ [t])) : Went w Bc Ba base v ((w3.setCell ⟨Ba, 0, none⟩ v3).setCell ⟨Bc, 0, none⟩ (.int .i64 (T1 ++ [t]).length)) v3 (T1 ++ [t]) := by
  have hne := h.1.ne
  have hf1 := (hc.seta hne v3).setc hne (T1 ++ [t]).length
  have hb3 : ∀ g, v3.ownBlock = some g → g ≠ Bc ∧ g ≠ Ba := fun g hg' => by
    obtain ⟨_, cur, hg2⟩ := hown.blk hg'
    refine ⟨fun e => ?_, fun e => ?_⟩
    · subst e; have := hc.c; rw [hg2] at this; simp at this
    · subst e; have := hc.a; rw [hg2] at this; simp at this
  have hown' : OwnBytes ((w3.setCell ⟨Ba, 0, none⟩ v3).setCell ⟨Bc, 0, none⟩ (.int .i64 (T1 ++ [t]).length)) base v3 (joinT (T1 ++ [t])) :=
    hown.keep fun g hg' => (Below.heap_setCell _ _ _ _ (hb3 g hg').1).trans (Below.heap_setCell _ _ _ _ (hb3 g hg').2)
  refine ⟨⟨hf1.c, hf1.a, hown', hf, h.1.bc, h.1.ba⟩, fun b hb => ?_, ?_⟩
  · rcases hat b hb with h1 | h1
    · exact h.2.1 b h1
    · have := h.2.2.size; exact .inr (by omega)
  · exact ((h.fell hg).setCell _ _ fun _ => .inr (.inl rfl)).setCell _ _ fun _ => .inl rfl
theorem chg_token {w wo w3 : World} {Bc Ba base : Nat} {v u v3 x : Value} {T1 : List (List UInt8)} (h : Went w Bc Ba base v wo u T1) (hg : Chg (Mine Bc Ba u) wo w3) :
    Chg (Mine Bc Ba v) w ((w3.setCell ⟨Ba, 0, none⟩ v3).setCell ⟨Bc, 0, none⟩ x) :=
  ((h.fell hg).setCell _ _ fun _ => .inr (.inl rfl)).setCell _ _ fun _ => .inl rfl
theorem own_ne {w : World} {Bc Ba k base : Nat} {x v : Value} {l : List UInt8} (hc : Cells w Bc Ba k x) (hown : OwnBytes w base v l) : v.ownBlock ≠ some Bc ∧ v.ownBlock ≠ some Ba := by
  refine ⟨fun e => ?_, fun e => ?_⟩
  · obtain ⟨_, cur, hg2⟩ := hown.blk e
    have := hc.c; rw [hg2] at this; simp at this
  · obtain ⟨_, cur, hg2⟩ := hown.blk e
    have := hc.a; rw [hg2] at this; simp at this
theorem own_set {w : World} {Ba base : Nat} {v : Value} {l : List UInt8} (hown : OwnBytes w base v l) (h : v.ownBlock ≠ some Ba) (u : Value) : OwnBytes (w.setCell ⟨Ba, 0, none⟩ u) base v l :=
  hown.keep fun g hg => Below.heap_setCell _ _ _ _ (fun e => by subst e; exact h hg)
theorem adv_take {T ts : List (List UInt8)} {j : Nat} (hj : j < ts.length) : T ++ ts.take (j + 1) = (T ++ ts.take j) ++ [ts[j]] := by
  rw [List.take_succ_eq_append_getElem hj, List.append_assoc]
theorem adv_stop {T ts : List (List UInt8)} {j : Nat} (h : ¬ fits (T ++ ts.take j)) : adv T (some ts) = none := by
  rw [adv_some, if_neg]
  intro hf
  rw [← List.take_append_drop j ts, ← List.append_assoc] at hf
  exact h (fits_of_append hf)
theorem adv_full {T ts : List (List UInt8)} {j : Nat} (h : fits (T ++ ts.take j)) (hj : ts.length ≤ j) : adv T (some ts) = some (T ++ ts) := by
  rw [List.take_of_length_le hj] at h
  rw [adv_some, if_pos h]

set_option maxRecDepth 100000 in
set_option maxHeartbeats 2000000 in
theorem put_any {w : World} {Bc Ba base : Nat} {v : Value} {T : List (List UInt8)} (hp : PenAt w Bc Ba base v T) (hbase : base ≤ w.heap.size) (ts : List (List UInt8)) (tv : Value) (hts : StrsAt w (Mine Bc Ba v) tv ts) :
    Calls Tryd.prog 47 #[tv, .pointer (some ⟨Bc, 0, none⟩), .pointer (some ⟨Ba, 0, none⟩)] w (PenPost w Bc Ba base v (adv T (some ts))) := by
  obtain ⟨A, c, rfl, hc1, hc2, hcell⟩ := hts
  obtain ⟨n, hn⟩ : ∃ n, n = ts.length := ⟨_, rfl⟩
  rw [← hn] at hc1 ⊢
  have HN := Lib.hid hn
  have HP := Lib.hid hp
  have HC := Lib.hid hcell
  have HB := Lib.hid hbase
  clear hp hcell hn hbase
  go_enter Tryd.func47, Tryd.ntmps47
  go_wp2
  go_loopw [8] (fun i wr => ∃ (j : Nat) (u : Value), j ≤ n ∧ i = .int .i64 j ∧ Hid (Went w Bc Ba base v wr u (T ++ ts.take j))) (fun i _ => n - (intOf i).toNat)
  case atStart => exact ⟨0, v, Nat.zero_le _, rfl, Lib.hid (by rw [List.take_zero, List.append_nil]; exact Went.refl HP.out)⟩
  case round =>
    obtain ⟨wo, rfl⟩ : ∃ wo : World, wo = wr := ⟨_, rfl⟩
    obtain ⟨j, u, hj, rfl, HW⟩ := hrel
    by_cases hlt : j < n
    · have hjt : j < ts.length := by rw [← HN.out]; exact hlt
      obtain ⟨b, off, rfl, hnb, hl4, p0⟩ := HC.out j hjt
      have p0 := HW.out.2.2.cell p0 hnb
      have hat := adv_take (T := T) hjt
      have hstop := fun h => adv_stop (T := T) (ts := ts) (j := j + 1) h
      rw [hat] at hstop
      obtain ⟨t, ht⟩ : ∃ t, t = ts[j] := ⟨_, rfl⟩
      rw [← ht] at hl4 p0 hat hstop
      obtain ⟨T1, hT1⟩ : ∃ T1, T1 = T ++ ts.take j := ⟨_, rfl⟩
      rw [← hT1] at hat HW hstop
      obtain ⟨Au, cu, hu⟩ := HW.out.1.own.form
      subst hu
      obtain ⟨L1, hL1⟩ : ∃ L, L = (joinT T1).length := ⟨_, rfl⟩
      obtain ⟨C1, hC1⟩ : ∃ C, C = T1.length := ⟨_, rfl⟩
      rw [← hL1] at HW
      have hcl : Cells wo Bc Ba C1 (.slice Au L1 cu) := by
        refine ⟨?_, HW.out.1.buf⟩
        rw [hC1]; exact HW.out.1.cnt
      have qc := hcl.cc
      have qa := hcl.ca
      have zc := hcl.fc
      have za := hcl.fa
      have hf1 := HW.out.1.fit
      have hC4 : C1 ≤ 4096 := by rw [hC1]; exact hf1.2
      have hL4 : L1 ≤ 16384 := by rw [hL1]; exact hf1.1
      have hbw : base ≤ wo.heap.size := Nat.le_trans HB.out HW.out.2.2.size
      have hne : Bc ≠ Ba := HW.out.1.ne
      have hsl : (T1 ++ [t]).length = C1 + 1 := by rw [List.length_append, ← hC1]; rfl
      have hjn := joinT_snoc T1 t
      obtain ⟨L3, hL3⟩ : ∃ L, L = (joinT (T1 ++ [t])).length := ⟨_, rfl⟩
      have HL3 := Lib.hid hL3
      clear hL3
      have HCL := Lib.hid hcl
      have HL1 := Lib.hid hL1
      have HC1 := Lib.hid hC1
      have HAT := Lib.hid hat
      have HJ := Lib.hid hjn
      have HL4 := Lib.hid hl4
      have HST := Lib.hid hstop
      have HNE := Lib.hid hne
      have HSL := Lib.hid hsl
      have HBW := Lib.hid hbw
      have HC4 := Lib.hid hC4
      have HLL := Lib.hid hL4
      have HO := Lib.hid HW.out.1.own
      have hn1 := HW.out.1.nec
      have hn2 := HW.out.1.nea
      have HN1 := Lib.hid hn1
      have HN2 := Lib.hid hn2
      have hwr : wrap64 ((C1 : Int) + 1) = (C1 : Int) + 1 := by have := HC4.out; exact IntWalk.wrap64_in _ ⟨by omega, by omega⟩
      clear hL1 hC1 hat hl4 ht hT1 hcl hjn hstop hne hsl hbw hf1 hC4 hL4 hn1 hn2
      have hfc : fits (T1 ++ [t]) ↔ L3 ≤ 16384 ∧ C1 + 1 ≤ 4096 := by unfold fits; rw [← HL3.out, HSL.out]
      have HFC := Lib.hid hfc
      clear hfc
      by_cases h0 : C1 = 0
      · have hpo : ¬ 0 < C1 := by omega
        have hT0 : T1 = [] := List.eq_nil_of_length_eq_zero (HC1.out.symm.trans h0)
        have HJ0 : Hid (joinT (T1 ++ [t]) = joinT T1 ++ t) := Lib.hid (by rw [HJ.out, if_pos hT0, List.append_nil])
        clear hT0 h0
        by_cases hA : L3 ≤ 16384
        · by_cases hC : C1 + 1 ≤ 4096
          · have hD : decide ((C1 : Int) + 1 ≤ 4096) = true := by rw [decide_eq_true_eq]; omega
            have HF : Hid (fits (T1 ++ [t])) := Lib.hid (HFC.out.2 ⟨hA, hC⟩)
            clear hC
            go_wp2_with (at_builtin; refine wpList_append_text rfl _ _ rfl base (.slice Au L1 cu) (joinT T1) rfl HO.out t rfl (by rw [← HL1.out]; have := HL4.out; have := HLL.out; omega) HBW.out ?_; intro v3 w3 hown3 hgr3 hat3; rw [← HJ0.out] at hown3; obtain ⟨A3, c3, hv3⟩ := hown3.form; rw [← HL3.out] at hv3; subst hv3; have hcl3 := HCL.out.grown hgr3 HN1.out HN2.out; have hcl4 := hcl3.seta HNE.out (.slice A3 L3 c3); have hcl5 := hcl4.setc HNE.out (C1 + 1); have qc3 := hcl3.cc; have qa3 := hcl3.ca; have zc3 := hcl3.fc; have za3 := hcl3.fa; have q4c := hcl4.cc; have q4a := hcl4.ca; have z4c := hcl4.fc; have q5c : ((w3.setCell ⟨Ba, 0, none⟩ (.slice A3 L3 c3)).setCell ⟨Bc, 0, none⟩ (.int .i64 ((C1 : Int) + 1))).cell? ⟨Bc, 0, none⟩ = some (.int .i64 ((C1 : Int) + 1)) := hcl5.cc; have q5a : ((w3.setCell ⟨Ba, 0, none⟩ (.slice A3 L3 c3)).setCell ⟨Bc, 0, none⟩ (.int .i64 ((C1 : Int) + 1))).cell? ⟨Ba, 0, none⟩ = some (.slice A3 L3 c3) := hcl5.ca; have HCL3 := Lib.hid hcl3; have HOW3 := Lib.hid hown3; have HAT3 := Lib.hid hat3; have HGR3 := Lib.hid hgr3; clear hcl3 hcl4 hcl5 hown3 hat3 hgr3)
            refine (must_yes _).mono ?_
            rintro e w4 ⟨rfl, rfl⟩
            go_wp2
            go_roundw
            case rel =>
              have hfin := went_token HW.out ((Chg.refl _ wo).grown HGR3.out (fun k _ hr => .inr (.inr hr))) HCL3.out HOW3.out (fun b hb => by rcases HAT3.out with h | h; (rw [h] at hb; exact .inl hb); (rw [h] at hb; have hb := Option.some.inj hb; right; omega)) HF.out
              rw [HSL.out] at hfin
              exact ⟨j + 1, .slice A3 L3 c3, by omega, by go_num, Lib.hid (by rw [HAT.out]; exact hfin)⟩
            case measure => simp [intOf]; omega
          · have hD : decide ((C1 : Int) + 1 ≤ 4096) = false := by rw [decide_eq_false_iff_not]; omega
            have HF : Hid (¬ fits (T1 ++ [t])) := Lib.hid (fun h => hC (HFC.out.1 h).2)
            clear hC
            go_wp2_with (at_builtin; refine wpList_append_text rfl _ _ rfl base (.slice Au L1 cu) (joinT T1) rfl HO.out t rfl (by rw [← HL1.out]; have := HL4.out; have := HLL.out; omega) HBW.out ?_; intro v3 w3 hown3 hgr3 hat3; rw [← HJ0.out] at hown3; obtain ⟨A3, c3, hv3⟩ := hown3.form; rw [← HL3.out] at hv3; subst hv3; have hcl3 := HCL.out.grown hgr3 HN1.out HN2.out; have hcl4 := hcl3.seta HNE.out (.slice A3 L3 c3); have hcl5 := hcl4.setc HNE.out (C1 + 1); have qc3 := hcl3.cc; have qa3 := hcl3.ca; have zc3 := hcl3.fc; have za3 := hcl3.fa; have q4c := hcl4.cc; have q4a := hcl4.ca; have z4c := hcl4.fc; have q5c : ((w3.setCell ⟨Ba, 0, none⟩ (.slice A3 L3 c3)).setCell ⟨Bc, 0, none⟩ (.int .i64 ((C1 : Int) + 1))).cell? ⟨Bc, 0, none⟩ = some (.int .i64 ((C1 : Int) + 1)) := hcl5.cc; have q5a : ((w3.setCell ⟨Ba, 0, none⟩ (.slice A3 L3 c3)).setCell ⟨Bc, 0, none⟩ (.int .i64 ((C1 : Int) + 1))).cell? ⟨Ba, 0, none⟩ = some (.slice A3 L3 c3) := hcl5.ca; have HCL3 := Lib.hid hcl3; have HOW3 := Lib.hid hown3; have HAT3 := Lib.hid hat3; have HGR3 := Lib.hid hgr3; clear hcl3 hcl4 hcl5 hown3 hat3 hgr3)
            refine (must_no _).mono ?_
            rintro e w4 ⟨rfl, rfl⟩
            unfold boom
            go_wp2
            show _ ∧ _
            refine ⟨rfl, ?_⟩
            rw [HST.out HF.out]
            exact ⟨rfl, chg_token HW.out ((Chg.refl _ wo).grown HGR3.out (fun k _ hr => .inr (.inr hr)))⟩
        · have HF : Hid (¬ fits (T1 ++ [t])) := Lib.hid (fun h => hA (HFC.out.1 h).1)
          go_wp2_with (at_builtin; refine wpList_append_text rfl _ _ rfl base (.slice Au L1 cu) (joinT T1) rfl HO.out t rfl (by rw [← HL1.out]; have := HL4.out; have := HLL.out; omega) HBW.out ?_; intro v3 w3 hown3 hgr3 hat3; rw [← HJ0.out] at hown3; obtain ⟨A3, c3, hv3⟩ := hown3.form; rw [← HL3.out] at hv3; subst hv3; have hcl3 := HCL.out.grown hgr3 HN1.out HN2.out; have hcl4 := hcl3.seta HNE.out (.slice A3 L3 c3); have hcl5 := hcl4.setc HNE.out (C1 + 1); have qc3 := hcl3.cc; have qa3 := hcl3.ca; have zc3 := hcl3.fc; have za3 := hcl3.fa; have q4c := hcl4.cc; have q4a := hcl4.ca; have z4c := hcl4.fc; have q5c : ((w3.setCell ⟨Ba, 0, none⟩ (.slice A3 L3 c3)).setCell ⟨Bc, 0, none⟩ (.int .i64 ((C1 : Int) + 1))).cell? ⟨Bc, 0, none⟩ = some (.int .i64 ((C1 : Int) + 1)) := hcl5.cc; have q5a : ((w3.setCell ⟨Ba, 0, none⟩ (.slice A3 L3 c3)).setCell ⟨Bc, 0, none⟩ (.int .i64 ((C1 : Int) + 1))).cell? ⟨Ba, 0, none⟩ = some (.slice A3 L3 c3) := hcl5.ca; have HCL3 := Lib.hid hcl3; have HOW3 := Lib.hid hown3; have HAT3 := Lib.hid hat3; have HGR3 := Lib.hid hgr3; clear hcl3 hcl4 hcl5 hown3 hat3 hgr3)
          refine (must_no _).mono ?_
          rintro e w4 ⟨rfl, rfl⟩
          unfold boom
          go_wp2
          show _ ∧ _
          refine ⟨rfl, ?_⟩
          rw [HST.out HF.out]
          exact ⟨rfl, chg_token HW.out ((Chg.refl _ wo).grown HGR3.out (fun k _ hr => .inr (.inr hr)))⟩
      · have hpo : 0 < C1 := by omega
        have hT0 : T1 ≠ [] := fun e => h0 (by rw [HC1.out, e]; rfl)
        have HJ0 : Hid (joinT (T1 ++ [t]) = (joinT T1 ++ [32]) ++ t) := Lib.hid (by rw [HJ.out, if_neg hT0])
        have HH0 := Lib.hid h0
        clear hT0 h0
        by_cases hA : L3 ≤ 16384
        · by_cases hC : C1 + 1 ≤ 4096
          · have hD : decide ((C1 : Int) + 1 ≤ 4096) = true := by rw [decide_eq_true_eq]; omega
            have HF : Hid (fits (T1 ++ [t])) := Lib.hid (HFC.out.2 ⟨hA, hC⟩)
            clear hC
            go_wp2_with (first | (at_builtin; refine wpList_append_blank rfl _ _ rfl base (.slice Au L1 cu) (joinT T1) rfl (HO.out.alloc _) wo.heap.size 1 rfl (one_blank wo) (by rw [← HL1.out]; have := HLL.out; omega) (by have := HBW.out; simp; omega) ?_; intro v2 w2 hown2 hgr2 hat2; obtain ⟨A2, c2, hv2⟩ := hown2.form; rw [List.length_append, List.length_singleton, ← HL1.out] at hv2; subst hv2; have hcl2 := (HCL.out.alloc (.cells #[.int .u8 32] 5)).grown hgr2 HN1.out HN2.out; have qc2 := hcl2.cc; have qa2 := hcl2.ca; have zc2 := hcl2.fc; have za2 := hcl2.fa; have HCL2 := Lib.hid hcl2; have hcl6 := hcl2.seta HNE.out (.slice A2 (L1 + 1) c2); have HCL6 := Lib.hid hcl6; have q6c := hcl6.cc; have q6a := hcl6.ca; have z6c := hcl6.fc; have z6a := hcl6.fa; have hnb2 := own_ne hcl2 hown2; have HO6 := Lib.hid (own_set hown2 hnb2.2 (.slice A2 (L1 + 1) c2)); have HN6 := Lib.hid hnb2; clear hcl2 hcl6 hnb2) | (at_builtin; refine wpList_append_text rfl _ _ rfl base (.slice A2 (L1 + 1) c2) (joinT T1 ++ [32]) rfl HO6.out t rfl (by rw [List.length_append, List.length_singleton, ← HL1.out]; have := HL4.out; have := HLL.out; omega) (by have := HBW.out; have := hgr2.size; simp at this ⊢; omega) ?_; intro v3 w3 hown3 hgr3 hat3; rw [← HJ0.out] at hown3; obtain ⟨A3, c3, hv3⟩ := hown3.form; rw [← HL3.out] at hv3; subst hv3; have hcl3 := HCL6.out.grown hgr3 HN6.out.1 HN6.out.2; have hcl4 := hcl3.seta HNE.out (.slice A3 L3 c3); have hcl5 := hcl4.setc HNE.out (C1 + 1); have qc3 := hcl3.cc; have qa3 := hcl3.ca; have zc3 := hcl3.fc; have za3 := hcl3.fa; have q4c := hcl4.cc; have q4a := hcl4.ca; have z4c := hcl4.fc; have q5c : ((w3.setCell ⟨Ba, 0, none⟩ (.slice A3 L3 c3)).setCell ⟨Bc, 0, none⟩ (.int .i64 ((C1 : Int) + 1))).cell? ⟨Bc, 0, none⟩ = some (.int .i64 ((C1 : Int) + 1)) := hcl5.cc; have q5a : ((w3.setCell ⟨Ba, 0, none⟩ (.slice A3 L3 c3)).setCell ⟨Bc, 0, none⟩ (.int .i64 ((C1 : Int) + 1))).cell? ⟨Ba, 0, none⟩ = some (.slice A3 L3 c3) := hcl5.ca; have HCL3 := Lib.hid hcl3; have HOW3 := Lib.hid hown3; have HAT3 := Lib.hid hat3; have HGR3 := Lib.hid hgr3; clear hcl3 hcl4 hcl5 hown3 hat3 hgr3))
            refine (must_yes _).mono ?_
            rintro e w4 ⟨rfl, rfl⟩
            go_wp2
            go_roundw
            case rel =>
              have hfin := went_token HW.out (((((Chg.refl _ wo).alloc _).grown hgr2 (fun k _ hr => .inr (.inr hr))).setCell _ _ (fun _ => .inr (.inl rfl))).grown HGR3.out (fun k hk hr => by rcases hat2 with h | h; (rw [h] at hr; exact .inr (.inr hr)); (rw [h] at hr; have hr := Option.some.inj hr; simp at hr; omega))) HCL3.out HOW3.out (fun b hb => by have hs2 := hgr2.size; simp at hs2; rcases HAT3.out with h | h; (rw [h] at hb; rcases hat2 with h2 | h2; (rw [h2] at hb; exact .inl hb); (rw [h2] at hb; have hb := Option.some.inj hb; simp at hb; right; omega)); (rw [h] at hb; have hb := Option.some.inj hb; simp at hb; right; omega)) HF.out
              rw [HSL.out] at hfin
              exact ⟨j + 1, .slice A3 L3 c3, by omega, by go_num, Lib.hid (by rw [HAT.out]; exact hfin)⟩
            case measure => simp [intOf]; omega
          · have hD : decide ((C1 : Int) + 1 ≤ 4096) = false := by rw [decide_eq_false_iff_not]; omega
            have HF : Hid (¬ fits (T1 ++ [t])) := Lib.hid (fun h => hC (HFC.out.1 h).2)
            clear hC
            go_wp2_with (first | (at_builtin; refine wpList_append_blank rfl _ _ rfl base (.slice Au L1 cu) (joinT T1) rfl (HO.out.alloc _) wo.heap.size 1 rfl (one_blank wo) (by rw [← HL1.out]; have := HLL.out; omega) (by have := HBW.out; simp; omega) ?_; intro v2 w2 hown2 hgr2 hat2; obtain ⟨A2, c2, hv2⟩ := hown2.form; rw [List.length_append, List.length_singleton, ← HL1.out] at hv2; subst hv2; have hcl2 := (HCL.out.alloc (.cells #[.int .u8 32] 5)).grown hgr2 HN1.out HN2.out; have qc2 := hcl2.cc; have qa2 := hcl2.ca; have zc2 := hcl2.fc; have za2 := hcl2.fa; have HCL2 := Lib.hid hcl2; have hcl6 := hcl2.seta HNE.out (.slice A2 (L1 + 1) c2); have HCL6 := Lib.hid hcl6; have q6c := hcl6.cc; have q6a := hcl6.ca; have z6c := hcl6.fc; have z6a := hcl6.fa; have hnb2 := own_ne hcl2 hown2; have HO6 := Lib.hid (own_set hown2 hnb2.2 (.slice A2 (L1 + 1) c2)); have HN6 := Lib.hid hnb2; clear hcl2 hcl6 hnb2) | (at_builtin; refine wpList_append_text rfl _ _ rfl base (.slice A2 (L1 + 1) c2) (joinT T1 ++ [32]) rfl HO6.out t rfl (by rw [List.length_append, List.length_singleton, ← HL1.out]; have := HL4.out; have := HLL.out; omega) (by have := HBW.out; have := hgr2.size; simp at this ⊢; omega) ?_; intro v3 w3 hown3 hgr3 hat3; rw [← HJ0.out] at hown3; obtain ⟨A3, c3, hv3⟩ := hown3.form; rw [← HL3.out] at hv3; subst hv3; have hcl3 := HCL6.out.grown hgr3 HN6.out.1 HN6.out.2; have hcl4 := hcl3.seta HNE.out (.slice A3 L3 c3); have hcl5 := hcl4.setc HNE.out (C1 + 1); have qc3 := hcl3.cc; have qa3 := hcl3.ca; have zc3 := hcl3.fc; have za3 := hcl3.fa; have q4c := hcl4.cc; have q4a := hcl4.ca; have z4c := hcl4.fc; have q5c : ((w3.setCell ⟨Ba, 0, none⟩ (.slice A3 L3 c3)).setCell ⟨Bc, 0, none⟩ (.int .i64 ((C1 : Int) + 1))).cell? ⟨Bc, 0, none⟩ = some (.int .i64 ((C1 : Int) + 1)) := hcl5.cc; have q5a : ((w3.setCell ⟨Ba, 0, none⟩ (.slice A3 L3 c3)).setCell ⟨Bc, 0, none⟩ (.int .i64 ((C1 : Int) + 1))).cell? ⟨Ba, 0, none⟩ = some (.slice A3 L3 c3) := hcl5.ca; have HCL3 := Lib.hid hcl3; have HOW3 := Lib.hid hown3; have HAT3 := Lib.hid hat3; have HGR3 := Lib.hid hgr3; clear hcl3 hcl4 hcl5 hown3 hat3 hgr3))
            refine (must_no _).mono ?_
            rintro e w4 ⟨rfl, rfl⟩
            unfold boom
            go_wp2
            show _ ∧ _
            refine ⟨rfl, ?_⟩
            rw [HST.out HF.out]
            exact ⟨rfl, chg_token HW.out (((((Chg.refl _ wo).alloc _).grown hgr2 (fun k _ hr => .inr (.inr hr))).setCell _ _ (fun _ => .inr (.inl rfl))).grown HGR3.out (fun k hk hr => by rcases hat2 with h | h; (rw [h] at hr; exact .inr (.inr hr)); (rw [h] at hr; have hr := Option.some.inj hr; simp at hr; omega)))⟩
        · have HF : Hid (¬ fits (T1 ++ [t])) := Lib.hid (fun h => hA (HFC.out.1 h).1)
          go_wp2_with (first | (at_builtin; refine wpList_append_blank rfl _ _ rfl base (.slice Au L1 cu) (joinT T1) rfl (HO.out.alloc _) wo.heap.size 1 rfl (one_blank wo) (by rw [← HL1.out]; have := HLL.out; omega) (by have := HBW.out; simp; omega) ?_; intro v2 w2 hown2 hgr2 hat2; obtain ⟨A2, c2, hv2⟩ := hown2.form; rw [List.length_append, List.length_singleton, ← HL1.out] at hv2; subst hv2; have hcl2 := (HCL.out.alloc (.cells #[.int .u8 32] 5)).grown hgr2 HN1.out HN2.out; have qc2 := hcl2.cc; have qa2 := hcl2.ca; have zc2 := hcl2.fc; have za2 := hcl2.fa; have HCL2 := Lib.hid hcl2; have hcl6 := hcl2.seta HNE.out (.slice A2 (L1 + 1) c2); have HCL6 := Lib.hid hcl6; have q6c := hcl6.cc; have q6a := hcl6.ca; have z6c := hcl6.fc; have z6a := hcl6.fa; have hnb2 := own_ne hcl2 hown2; have HO6 := Lib.hid (own_set hown2 hnb2.2 (.slice A2 (L1 + 1) c2)); have HN6 := Lib.hid hnb2; clear hcl2 hcl6 hnb2) | (at_builtin; refine wpList_append_text rfl _ _ rfl base (.slice A2 (L1 + 1) c2) (joinT T1 ++ [32]) rfl HO6.out t rfl (by rw [List.length_append, List.length_singleton, ← HL1.out]; have := HL4.out; have := HLL.out; omega) (by have := HBW.out; have := hgr2.size; simp at this ⊢; omega) ?_; intro v3 w3 hown3 hgr3 hat3; rw [← HJ0.out] at hown3; obtain ⟨A3, c3, hv3⟩ := hown3.form; rw [← HL3.out] at hv3; subst hv3; have hcl3 := HCL6.out.grown hgr3 HN6.out.1 HN6.out.2; have hcl4 := hcl3.seta HNE.out (.slice A3 L3 c3); have hcl5 := hcl4.setc HNE.out (C1 + 1); have qc3 := hcl3.cc; have qa3 := hcl3.ca; have zc3 := hcl3.fc; have za3 := hcl3.fa; have q4c := hcl4.cc; have q4a := hcl4.ca; have z4c := hcl4.fc; have q5c : ((w3.setCell ⟨Ba, 0, none⟩ (.slice A3 L3 c3)).setCell ⟨Bc, 0, none⟩ (.int .i64 ((C1 : Int) + 1))).cell? ⟨Bc, 0, none⟩ = some (.int .i64 ((C1 : Int) + 1)) := hcl5.cc; have q5a : ((w3.setCell ⟨Ba, 0, none⟩ (.slice A3 L3 c3)).setCell ⟨Bc, 0, none⟩ (.int .i64 ((C1 : Int) + 1))).cell? ⟨Ba, 0, none⟩ = some (.slice A3 L3 c3) := hcl5.ca; have HCL3 := Lib.hid hcl3; have HOW3 := Lib.hid hown3; have HAT3 := Lib.hid hat3; have HGR3 := Lib.hid hgr3; clear hcl3 hcl4 hcl5 hown3 hat3 hgr3))
          refine (must_no _).mono ?_
          rintro e w4 ⟨rfl, rfl⟩
          unfold boom
          go_wp2
          show _ ∧ _
          refine ⟨rfl, ?_⟩
          rw [HST.out HF.out]
          exact ⟨rfl, chg_token HW.out (((((Chg.refl _ wo).alloc _).grown hgr2 (fun k _ hr => .inr (.inr hr))).setCell _ _ (fun _ => .inr (.inl rfl))).grown HGR3.out (fun k hk hr => by rcases hat2 with h | h; (rw [h] at hr; exact .inr (.inr hr)); (rw [h] at hr; have hr := Option.some.inj hr; simp at hr; omega)))⟩
    · have hjn : j = n := by omega
      subst hjn
      go_wp2
      go_end0
      have hfull := adv_full HW.out.1.fit (by rw [← HN.out]; exact Nat.le_refl _)
      rw [hfull]
      refine ⟨rfl, u, ?_⟩
      have h := HW.out
      rw [List.take_of_length_le (by rw [← HN.out]; exact Nat.le_refl _)] at h
      exact h

end Go.Proofs.YtmbkjabjcphkbaaDoor
end
section
/- The walk of written: what a writer has written, or the error. -/
set_option linter.unusedVariables false
namespace Go.Proofs.YtmbkjabjcphkbaaDoor
open Go.RowKit

theorem assert_errno (n : Int) (w : World) : (Instr.typeAssert (.iface 28 (.int .i64 n)) 20 28 true).run Tryd.prog w = .ok (.tuple #[.int .i64 n, .bool true]) w := by kernel_rfl
theorem assert_nil (w : World) : (Instr.typeAssert .nilIface 20 28 true).run Tryd.prog w = .ok (.tuple #[.int .i64 0, .bool false]) w := by kernel_rfl
theorem tmps_catch (a b x : Value) : #[a, b] ++ ((Array.replicate 14 undef).setIfInBounds 3 x).setIfInBounds 0 x = #[a, b, x, undef, undef, x, undef, undef, undef, undef, undef, undef, undef, undef, undef, undef] := rfl
set_option maxHeartbeats 2000000 in
/-- the deferred closure of a frame that returns -/
theorem catch_idle (p q : Addr) (w : World) :
    CallsD Tryd.prog 46 #[.pointer (some p), .pointer (some q)] .returning w fun e u' w' => e = .returned (.tuple #[]) ∧ u' = .returning ∧ w' = w := by
  refine callsD_of_wpS Tryd.func46 rfl fun c₀ cs hu => ?_
  have h1 := assert_nil
  have h2 : ∀ w : World, (binOp .neq 20 .nilIface .nilIface).run Tryd.prog w = .ok (.bool false) w := fun _ => by kernel_rfl
  apply wpS_seq
  apply wpS_region
  simp [wpOpsS, go_sem, recoverD, hu, Tryd.ntmps46, Exit.thenS]
  refine wpS_of_wp ?_
  rw [tmps_catch]
  go_wp2
  clear h1 h2
  cases c₀
  simp_all [bodyPostS, results, Tryd.results46]
set_option maxHeartbeats 2000000 in
theorem catch_panicking (p q : Addr) (w : World) (s : ByteArray) (n : Int) (hp : w.cell? p = some (.string s)) (hq : w.cell? q = some (.int .i64 n)) (zp : w.frozen? p = false) (zq : w.frozen? q = false) (hne : ¬ p.block = q.block) (hne' : ¬ q.block = p.block) :
    CallsD Tryd.prog 46 #[.pointer (some p), .pointer (some q)] (.panicking [{ v := .iface 28 (.int .i64 23), recovered := false }]) w fun e u' w' => e = .returned (.tuple #[]) ∧ u' = .panicking [{ v := .iface 28 (.int .i64 23), recovered := true }] ∧
      w' = (w.setCell p (.string ⟨#[]⟩)).setCell q (.int .i64 23) := by
  refine callsD_of_wpS Tryd.func46 rfl fun c₀ cs hu => ?_
  have h1 := assert_errno
  have hq2 : (w.setCell p (.string ⟨#[]⟩)).cell? q = some (.int .i64 n) := (World.cell?_of_block (Below.heap_setCell _ _ _ _ hne')).trans hq
  have zq2 : (w.setCell p (.string ⟨#[]⟩)).frozen? q = false := (World.frozen?_of_block (Below.heap_setCell _ _ _ _ hne')).trans zq
  apply wpS_seq
  apply wpS_region
  simp [wpOpsS, go_sem, recoverD, hu, Tryd.ntmps46, Exit.thenS]
  refine wpS_of_wp ?_
  rw [tmps_catch]
  go_wp2
  simp [bodyPostS, results, Tryd.results46]

/-- the pen as a value -/
def penV (Bc Ba : Nat) : Value := .func (.func 47) #[] #[.pointer (some ⟨Bc, 0, none⟩), .pointer (some ⟨Ba, 0, none⟩)]
/-- the function F with what it has captured writes C -/
def Writes (F : FuncId) (caps : Array Value) (w : World) (C : Ts) : Prop := ∀ (wx : World) (Bc Ba : Nat), Below w.heap.size w wx → w.heap.size ≤ wx.heap.size → PenAt wx Bc Ba w.heap.size (.slice none 0 0) [] →
  Calls Tryd.prog F (#[penV Bc Ba] ++ caps) wx (PenPost wx Bc Ba w.heap.size (.slice none 0 0) (adv [] C))
theorem own_none {Bc Ba b : Nat} (h : Mine Bc Ba (.slice none 0 0) b) : b = Bc ∨ b = Ba := by
  rcases h with h | h | h
  · exact .inl h
  · exact .inr h
  · cases h

set_option maxRecDepth 100000 in
set_option maxHeartbeats 2000000 in
theorem written_any (F : FuncId) (caps : Array Value) (w : World) (C : Ts) (hent : ∀ args w, (callFunc F args).run Tryd.prog w = .ok (.enter F args) w) (hw : Writes F caps w C) :
    Calls Tryd.prog 26 #[.func (.func F) #[] caps] w fun e w' => e = .returned (.tuple #[.string (strOf (fin C).1), .int .i64 (fin C).2]) ∧ Below w.heap.size w w' := by
  have hmf : ∀ (fn : Fn) (first cap : Array Value) (w : World), (Instr.makeFunc fn first cap).run Tryd.prog w = .ok (.func fn first cap) w := fun _ _ _ _ => rfl
  have HW := Lib.hid hw
  clear hw
  go_enter_defers Tryd.func26, Tryd.ntmps26
  go_wp2_with fail
  obtain ⟨X, hX⟩ : ∃ X : World, X = (((w.alloc (.cells #[.string ⟨#[]⟩] 9)).alloc (.cells #[.int .i64 0] 28)).alloc (.cells #[.slice none 0 0] 69)).alloc (.cells #[.int .i64 0] 3) := ⟨_, rfl⟩
  obtain ⟨g, hg⟩ : ∃ g, g = w.heap.size := ⟨_, rfl⟩
  have h0 : X.heap[g]? = some (.cells #[.string ⟨#[]⟩] 9 (0, 0)) := by
    rw [hX, hg, Below.heap_alloc _ _ _ (by simp; omega), Below.heap_alloc _ _ _ (by simp; omega), Below.heap_alloc _ _ _ (by simp)]; exact heap_alloc_new _ _
  have h1 : X.heap[g + 1]? = some (.cells #[.int .i64 0] 28 (0, 0)) := by
    rw [hX, hg, Below.heap_alloc _ _ _ (by simp), Below.heap_alloc _ _ _ (by simp)]
    have := heap_alloc_new (w.alloc (.cells #[.string ⟨#[]⟩] 9)) (.cells #[.int .i64 0] 28)
    simpa using this
  have h2 : X.heap[g + 1 + 1]? = some (.cells #[.slice none 0 0] 69 (0, 0)) := by
    rw [hX, hg, Below.heap_alloc _ _ _ (by simp)]
    have := heap_alloc_new ((w.alloc (.cells #[.string ⟨#[]⟩] 9)).alloc (.cells #[.int .i64 0] 28)) (.cells #[.slice none 0 0] 69)
    simpa using this
  have h3 : X.heap[g + 1 + 1 + 1]? = some (.cells #[.int .i64 0] 3 (0, 0)) := by
    rw [hX, hg]
    have := heap_alloc_new (((w.alloc (.cells #[.string ⟨#[]⟩] 9)).alloc (.cells #[.int .i64 0] 28)).alloc (.cells #[.slice none 0 0] 69)) (.cells #[.int .i64 0] 3)
    simpa using this
  have hs : X.heap.size = g + 4 := by rw [hX, hg]; simp
  have hb : Below w.heap.size w X := by
    rw [hX]; exact ((((Below.refl _ w).alloc (Nat.le_refl _) _).alloc (by simp) _).alloc (by simp; omega) _).alloc (by simp; omega) _
  rw [← hX, ← hg]
  have hp : PenAt X (g + 1 + 1 + 1) (g + 1 + 1) w.heap.size (.slice none 0 0) [] := ⟨h3, h2, OwnBytes.nil _ _, fits_nil, by omega, by omega⟩
  have HX0 := Lib.hid h0
  have HX1 := Lib.hid h1
  have HS := Lib.hid hs
  have HG := Lib.hid hg
  have HBX := Lib.hid hb
  have hcall := HW.out X (g + 1 + 1 + 1) (g + 1 + 1) hb (by omega) hp
  clear hX h0 h1 h2 h3 hs hb hp hg
  refine hcall.mono ?_
  clear hcall
  rintro e w1 hpost
  cases hC : adv [] C with
  | none =>
    rw [hC] at hpost
    obtain ⟨rfl, hch⟩ := hpost
    have q0 : w1.heap[g]? = some (.cells #[.string ⟨#[]⟩] 9 (0, 0)) := (hch.block g (by rw [HS.out]; omega) (fun h => by have := own_none h; omega)).trans HX0.out
    have q1 : w1.heap[g + 1]? = some (.cells #[.int .i64 0] 28 (0, 0)) := (hch.block (g + 1) (by rw [HS.out]; omega) (fun h => by have := own_none h; omega)).trans HX1.out
    have hb1 : Below w.heap.size w w1 := HBX.out.trans (hch.below (by rw [HS.out, ← HG.out]; omega) (fun x hx => by have := own_none hx; have := HG.out; omega))
    have HB1 := Lib.hid hb1
    have c0 := cell_of_row w1 g 0 _ _ (0, 0) q0
    have c1 := cell_of_row w1 (g + 1) 0 _ _ (0, 0) q1
    have z0 := frozen_of_row w1 g 0 _ _ q0
    have z1 := frozen_of_row w1 (g + 1) 0 _ _ q1
    have e0 : (w1.setCell ⟨g, 0, none⟩ (.string ⟨#[]⟩)).cell? ⟨g, 0, none⟩ = some (.string ⟨#[]⟩) := by
      rw [cell_of_row _ g 0 _ _ (0, 0) (set_one q0 _)]; rfl
    have e2 : ((w1.setCell ⟨g, 0, none⟩ (.string ⟨#[]⟩)).setCell ⟨g + 1, 0, none⟩ (.int .i64 23)).cell? ⟨g + 1, 0, none⟩ = some (.int .i64 23) := by
      rw [cell_of_row _ (g + 1) 0 _ _ (0, 0) (set_one ((Below.heap_setCell _ _ _ _ (by simp)).trans q1) _)]; rfl
    have HFIN : Hid (fin C = ([], 23)) := Lib.hid (by unfold fin; rw [← adv_start, hC])
    clear hC q0 q1 hb1 hch
    unfold boom
    go_wp2
    refine leaves_cons (f := 46) (args := #[.pointer (some ⟨g, 0, none⟩), .pointer (some ⟨g + 1, 0, none⟩)]) (by simp) (by simp [go_sem]) ?_
    refine (catch_panicking ⟨g, 0, none⟩ ⟨g + 1, 0, none⟩ w1 _ _ c0 c1 z0 z1 (by simp) (by simp)).mono ?_
    rintro e u' w'' ⟨rfl, rfl, rfl⟩
    simp [Leaves, settle, results, Tryd.results26, go_sem, e0, e2]
    rw [HFIN.out]
    refine ⟨⟨rfl, rfl⟩, ?_⟩
    have := HG.out
    exact (HB1.out.setCell (by simp; omega) _).setCell (by simp; omega) _
  | some T =>
    rw [hC] at hpost
    obtain ⟨rfl, v', hwent⟩ := hpost
    have hch := hwent.2.2
    have q0 : w1.heap[g]? = some (.cells #[.string ⟨#[]⟩] 9 (0, 0)) := (hch.block g (by rw [HS.out]; omega) (fun h => by have := own_none h; omega)).trans HX0.out
    have q1 : w1.heap[g + 1]? = some (.cells #[.int .i64 0] 28 (0, 0)) := (hch.block (g + 1) (by rw [HS.out]; omega) (fun h => by have := own_none h; omega)).trans HX1.out
    have hb1 : Below w.heap.size w w1 := HBX.out.trans (hch.below (by rw [HS.out, ← HG.out]; omega) (fun x hx => by have := own_none hx; have := HG.out; omega))
    have HB1 := Lib.hid hb1
    have hcv := hwent.1.own.conv
    have hq2 := hwent.1.buf
    obtain ⟨A, c, rfl⟩ := hwent.1.own.form
    obtain ⟨L, hL⟩ : ∃ L, L = (joinT T).length := ⟨_, rfl⟩
    rw [← hL] at hcv hq2
    obtain ⟨tx, htx⟩ : ∃ t, t = strOf (joinT T) := ⟨_, rfl⟩
    rw [← htx] at hcv
    have c0 := cell_of_row w1 g 0 _ _ (0, 0) q0
    have c1 := cell_of_row w1 (g + 1) 0 _ _ (0, 0) q1
    have c2 := cell_of_row w1 (g + 1 + 1) 0 _ _ (0, 0) hq2
    have z0 := frozen_of_row w1 g 0 _ _ q0
    have z1 := frozen_of_row w1 (g + 1) 0 _ _ q1
    simp at c0 c1 c2
    have c3 : (w1.setCell ⟨g, 0, none⟩ (.string tx)).cell? ⟨g + 1, 0, none⟩ = some (.int .i64 0) := (World.cell?_of_block (Below.heap_setCell _ _ _ _ (by simp))).trans c1
    have z3 : (w1.setCell ⟨g, 0, none⟩ (.string tx)).frozen? ⟨g + 1, 0, none⟩ = false := (World.frozen?_of_block (Below.heap_setCell _ _ _ _ (by simp))).trans z1
    have e0 : (w1.setCell ⟨g, 0, none⟩ (.string tx)).cell? ⟨g, 0, none⟩ = some (.string tx) := by
      rw [cell_of_row _ g 0 _ _ (0, 0) (set_one q0 _)]; rfl
    have e2 : ((w1.setCell ⟨g, 0, none⟩ (.string tx)).setCell ⟨g + 1, 0, none⟩ (.int .i64 0)).cell? ⟨g + 1, 0, none⟩ = some (.int .i64 0) := by
      rw [cell_of_row _ (g + 1) 0 _ _ (0, 0) (set_one ((Below.heap_setCell _ _ _ _ (by simp)).trans q1) _)]; rfl
    have HFIN : Hid (fin C = (joinT T, 0)) := Lib.hid (by unfold fin; rw [← adv_start, hC])
    have HTX := Lib.hid htx
    clear hC q0 q1 hb1 hch hwent hq2 hL htx
    go_wp2
    refine leaves_cons (f := 46) (args := #[.pointer (some ⟨g, 0, none⟩), .pointer (some ⟨g + 1, 0, none⟩)]) (by simp) (by simp [go_sem]) ?_
    refine (catch_idle ⟨g, 0, none⟩ ⟨g + 1, 0, none⟩ _).mono ?_
    rintro e u' w'' ⟨rfl, rfl, rfl⟩
    simp [Leaves, settle, results, Tryd.results26, go_sem, e0, e2]
    rw [HFIN.out, HTX.out]
    refine ⟨⟨rfl, rfl⟩, ?_⟩
    have := HG.out
    exact (HB1.out.setCell (by simp; omega) _).setCell (by simp; omega) _

end Go.Proofs.YtmbkjabjcphkbaaDoor
end
section
/- The library functions that package tree calls: CutPrefix, Itoa, Contains: contracts at this program. -/
namespace Go.Proofs.YtmbkjabjcphkbaaDoor
open Go.Shelf
def lays103_cut_ren : Go.Shelf.Ren := ⟨fun | 103 => 60 | 210 => 84 | 206 => 113 | n => n, fun | 9 => 9 | 4 => 4 | 24 => 101 | 3 => 3 | n => n, fun | n => n⟩
theorem lays103_cut : Go.Proofs.Lays.n103 Tryd.prog lays103_cut_ren := {
  mixed := by kernel_rfl
  f103 := Tryd.func60.trans (congrArg some (by kernel_rfl))
  f206 := Tryd.func113.trans (congrArg some (by kernel_rfl))
  f210 := Tryd.func84.trans (congrArg some (by kernel_rfl))
  t3 := Tryd.underlying3
  a3 := Tryd.isAgg3
  z3 := Tryd.sizeOf3
  v3 := Tryd.zeroValue3
  t4 := Tryd.underlying4
  a4 := Tryd.isAgg4
  z4 := Tryd.sizeOf4
  v4 := Tryd.zeroValue4
  t9 := Tryd.underlying9
  a9 := Tryd.isAgg9
  z9 := Tryd.sizeOf9
  v9 := Tryd.zeroValue9
  t24 := Tryd.underlying101
  a24 := Tryd.isAgg101
  z24 := Tryd.sizeOf101
  v24 := Tryd.zeroValue101 }
open Go.RowKit in
theorem strings_CutPrefix (s p : ByteArray) (w : World) :
    Calls Tryd.prog 60 #[.string s, .string p] w fun e w' => e = .returned (.tuple #[.string ⟨(Lib.trimPrefix s.data.toList p.data.toList).toArray⟩, .bool (Lib.hasPrefix s.data.toList p.data.toList)]) ∧ w' = w := Any.strings_CutPrefix lays103_cut s p w
def laysM171_ren : Go.Shelf.Ren := ⟨fun | 171 => 81 | 243 => 111 | 246 => 129 | 283 => 141 | 284 => 142 | 285 => 143 | 286 => 144 | 129 => 150 | 317 => 149 | 318 => 151 | 319 => 152 | 320 => 153 | 337 => 159 | 338 => 160 | n => n, fun | 3 => 3 | 9 => 9 | 2 => 2 | 4 => 4 | 171 => 152 | 0 => 0 | 53 => 153 | 37 => 69 | 5 => 5 | 173 => 156 | 212 => 161 | 51 => 162 | 20 => 20 | 213 => 163 | 46 => 164 | 232 => 178 | 233 => 179 | n => n, fun | 17 => 1 | 18 => 4 | 19 => 5 | n => n⟩
theorem laysM171 : Go.Proofs.LaysM.n171 Tryd.prog laysM171_ren := {
  mixed := by kernel_rfl
  f129 := Tryd.func150.trans (congrArg some (by kernel_rfl))
  f171 := Tryd.func81.trans (congrArg some (by kernel_rfl))
  f243 := Tryd.func111.trans (congrArg some (by kernel_rfl))
  f246 := Tryd.func129.trans (congrArg some (by kernel_rfl))
  f283 := Tryd.func141.trans (congrArg some (by kernel_rfl))
  f284 := Tryd.func142.trans (congrArg some (by kernel_rfl))
  f285 := Tryd.func143.trans (congrArg some (by kernel_rfl))
  f286 := Tryd.func144.trans (congrArg some (by kernel_rfl))
  f317 := Tryd.func149.trans (congrArg some (by kernel_rfl))
  f318 := Tryd.func151.trans (congrArg some (by kernel_rfl))
  f319 := Tryd.func152.trans (congrArg some (by kernel_rfl))
  f320 := Tryd.func153.trans (congrArg some (by kernel_rfl))
  f337 := Tryd.func159.trans (congrArg some (by kernel_rfl))
  f338 := Tryd.func160.trans (congrArg some (by kernel_rfl))
  t0 := Tryd.underlying0
  a0 := Tryd.isAgg0
  z0 := Tryd.sizeOf0
  v0 := Tryd.zeroValue0
  t2 := Tryd.underlying2
  a2 := Tryd.isAgg2
  z2 := Tryd.sizeOf2
  v2 := Tryd.zeroValue2
  t3 := Tryd.underlying3
  a3 := Tryd.isAgg3
  z3 := Tryd.sizeOf3
  v3 := Tryd.zeroValue3
  t4 := Tryd.underlying4
  a4 := Tryd.isAgg4
  z4 := Tryd.sizeOf4
  v4 := Tryd.zeroValue4
  t5 := Tryd.underlying5
  a5 := Tryd.isAgg5
  z5 := Tryd.sizeOf5
  v5 := Tryd.zeroValue5
  t9 := Tryd.underlying9
  a9 := Tryd.isAgg9
  z9 := Tryd.sizeOf9
  v9 := Tryd.zeroValue9
  t20 := Tryd.underlying20
  a20 := Tryd.isAgg20
  z20 := Tryd.sizeOf20
  v20 := Tryd.zeroValue20
  t37 := Tryd.underlying69
  a37 := Tryd.isAgg69
  z37 := Tryd.sizeOf69
  v37 := Tryd.zeroValue69
  t46 := Tryd.underlying164
  a46 := Tryd.isAgg164
  z46 := Tryd.sizeOf164
  v46 := Tryd.zeroValue164
  t51 := Tryd.underlying162
  a51 := Tryd.isAgg162
  z51 := Tryd.sizeOf162
  v51 := Tryd.zeroValue162
  t53 := Tryd.underlying153
  a53 := Tryd.isAgg153
  z53 := Tryd.sizeOf153
  v53 := Tryd.zeroValue153
  t171 := Tryd.underlying152
  a171 := Tryd.isAgg152
  z171 := Tryd.sizeOf152
  v171 := Tryd.zeroValue152
  t173 := Tryd.underlying156
  a173 := Tryd.isAgg156
  z173 := Tryd.sizeOf156
  v173 := Tryd.zeroValue156
  t212 := Tryd.underlying161
  a212 := Tryd.isAgg161
  z212 := Tryd.sizeOf161
  v212 := Tryd.zeroValue161
  t213 := Tryd.underlying163
  a213 := Tryd.isAgg163
  z213 := Tryd.sizeOf163
  t232 := Tryd.underlying178
  a232 := Tryd.isAgg178
  z232 := Tryd.sizeOf178
  v232 := Tryd.zeroValue178
  t233 := Tryd.underlying179
  a233 := Tryd.isAgg179
  z233 := Tryd.sizeOf179
  v233 := Tryd.zeroValue179
  g17 := by kernel_rfl
  g18 := by kernel_rfl
  g19 := by kernel_rfl
  i0 := by kernel_rfl
  i2 := by kernel_rfl
  i3 := by kernel_rfl
  i4 := by kernel_rfl
  i5 := by kernel_rfl
  i9 := by kernel_rfl
  i20 := by kernel_rfl
  i37 := by kernel_rfl
  i46 := by kernel_rfl
  i51 := by kernel_rfl
  i53 := by kernel_rfl
  i171 := by kernel_rfl
  i173 := by kernel_rfl
  i212 := by kernel_rfl
  i232 := by kernel_rfl
  i233 := by kernel_rfl
  m17 := by kernel_rfl
  m18 := by kernel_rfl
  m19 := by kernel_rfl }
open Go.RowKit Go.Sort Go.Lib in
theorem strconv_Itoa (n : Int) (h0 : -9223372036854775808 ≤ n) (h1 : n ≤ 9223372036854775807) (w : World) (htab : Lib.TabIs Tryd.prog w "internal/strconv.uint64pow10" .u64 Lib.pow10Tab) :
    Calls Tryd.prog 81 #[.int .i64 n] w fun e w' => e = .returned (.string ⟨(Lib.itoa n).toArray⟩) ∧ ∃ k os, w' = grow (w.drewN k) os := Any.strconv_Itoa laysM171 n h0 h1 w htab
def lays110_con_ren : Go.Shelf.Ren := ⟨fun | 110 => 83 | 109 => 112 | n => n, fun | 31 => 34 | 9 => 9 | 4 => 4 | 3 => 3 | 0 => 0 | n => n, fun | n => n⟩
theorem lays110_con : Go.Proofs.Lays.n110 Tryd.prog lays110_con_ren := {
  mixed := by kernel_rfl
  f109 := Tryd.func112.trans (congrArg some (by kernel_rfl))
  f110 := Tryd.func83.trans (congrArg some (by kernel_rfl))
  t0 := Tryd.underlying0
  a0 := Tryd.isAgg0
  z0 := Tryd.sizeOf0
  v0 := Tryd.zeroValue0
  t3 := Tryd.underlying3
  a3 := Tryd.isAgg3
  z3 := Tryd.sizeOf3
  v3 := Tryd.zeroValue3
  t4 := Tryd.underlying4
  a4 := Tryd.isAgg4
  z4 := Tryd.sizeOf4
  v4 := Tryd.zeroValue4
  t9 := Tryd.underlying9
  a9 := Tryd.isAgg9
  z9 := Tryd.sizeOf9
  v9 := Tryd.zeroValue9
  t31 := Tryd.underlying34
  a31 := Tryd.isAgg34
  z31 := Tryd.sizeOf34
  v31 := Tryd.zeroValue34 }
open Go.Lib in
theorem slices_Contains_string (b off n c : Nat) (zs : List ByteArray) (x : ByteArray) (w : World) (hz : n ≤ zs.length) (hbig : n ≤ 9223372036854775807) (hc : ∀ j, j < zs.length → w.cell? ⟨b, off + j, none⟩ = some (.string (zs.getD j ByteArray.empty))) :
    Calls Tryd.prog 83 #[.slice (some ⟨b, off, none⟩) n c, .string x] w fun e w' => e = .returned (.bool (Lib.containsS (zs.take n) x)) ∧ w' = w := Any.slices_Contains_string lays110_con b off n c zs x w hz hbig hc
open Go.Lib in
theorem slices_Contains_string_empty (a : Option Addr) (c : Nat) (x : ByteArray) (w : World) :
    Calls Tryd.prog 83 #[.slice a 0 c, .string x] w fun e w' => e = .returned (.bool false) ∧ w' = w := Any.slices_Contains_string_empty lays110_con a c x w
end Go.Proofs.YtmbkjabjcphkbaaDoor
end
section
/- The walk of types. -/
set_option linter.unusedVariables false
namespace Go.Proofs.YtmbkjabjcphkbaaDoor
open Go.RowKit

theorem strOf_toList (t : List UInt8) : (strOf t).toList = t := by
  rw [ByteArray.toList_eq]; rfl
theorem cut_star (t : List UInt8) (w : World) : Calls Tryd.prog 60 #[.string (strOf t), .string ⟨#[42]⟩] w fun e w' =>
    e = .returned (.tuple #[.string (strOf (if t.head? = some 42 then t.tail else t)), .bool (decide (t.head? = some 42))]) ∧ w = w' := by
  refine (strings_CutPrefix (strOf t) ⟨#[42]⟩ w).mono ?_
  rintro e w' ⟨rfl, rfl⟩
  refine ⟨?_, rfl⟩
  have h1 : Lib.hasPrefix (strOf t).data.toList (⟨#[42]⟩ : ByteArray).data.toList = decide (t.head? = some 42) := by
    rw [strOf_data]
    show ([42] : List UInt8).isPrefixOf t = _
    cases t with
    | nil => rfl
    | cons c r =>
      show ((42 : UInt8) == c && List.isPrefixOf [] r) = decide (some c = some 42)
      rw [List.isPrefixOf_nil_left, Bool.and_true, Bool.eq_iff_iff, beq_iff_eq, decide_eq_true_eq, Option.some.injEq]
      exact eq_comm
  have h2 : (⟨(Lib.trimPrefix (strOf t).data.toList (⟨#[42]⟩ : ByteArray).data.toList).toArray⟩ : ByteArray) = strOf (if t.head? = some 42 then t.tail else t) := by
    unfold Lib.trimPrefix
    rw [h1, strOf_data]
    by_cases h : t.head? = some 42
    · simp only [h, decide_true, if_true]
      show strOf (t.drop 1) = _
      rw [List.drop_one]
    · simp only [h, decide_false, if_false, Bool.false_eq_true]
      rfl
  rw [h1, h2]

def strCells (ts : List (List UInt8)) : Array Value := (ts.map fun t => Value.string (strOf t)).toArray
theorem strs_new (w : World) (P : Nat → Prop) (ts : List (List UInt8)) (hl : ∀ t ∈ ts, t.length ≤ 40000) (hn : ts.length ≤ 9223372036854775807) (hP : ¬ P w.heap.size) :
    StrsAt (w.alloc (.cells (strCells ts) 9)) P (.slice (some ⟨w.heap.size, 0, none⟩) ts.length ts.length) ts := by
  refine ⟨_, _, rfl, Nat.le_refl _, hn, fun k hk => ⟨w.heap.size, 0, rfl, hP, hl _ (List.getElem_mem _), ?_⟩⟩
  rw [Nat.zero_add, cell_of_row _ w.heap.size k _ _ (0, 0) (heap_alloc_new w _)]
  simp [strCells, List.getElem?_eq_getElem hk]
theorem PenPost.from_ {w w1 w' : World} {Bc Ba base : Nat} {v v1 : Value} {T1 : List (List UInt8)} {R : Ts} {e : Ending} (h : Went w Bc Ba base v w1 v1 T1) (hp : PenPost w1 Bc Ba base v1 R e w') : PenPost w Bc Ba base v R e w' := by
  cases R with
  | none => exact ⟨hp.1, h.fell hp.2⟩
  | some T => obtain ⟨he, v', hw⟩ := hp; exact ⟨he, v', h.trans hw⟩
/-- the pen is called with new texts -/
theorem put_new {w w1 : World} {Bc Ba base : Nat} {v v1 : Value} {T1 : List (List UInt8)} (h : Went w Bc Ba base v w1 v1 T1) (hbase : base ≤ w.heap.size) (ts : List (List UInt8)) (hl : ∀ t ∈ ts, t.length ≤ 40000) (hn : ts.length ≤ 1000) :
    Calls Tryd.prog 47 #[.slice (some ⟨w1.heap.size, 0, none⟩) ts.length ts.length, .pointer (some ⟨Bc, 0, none⟩), .pointer (some ⟨Ba, 0, none⟩)] (w1.alloc (.cells (strCells ts) 9)) (PenPost w Bc Ba base v (adv T1 (some ts))) := by
  have ha := h.alloc (.cells (strCells ts) 9)
  refine (put_any ha.1 (Nat.le_trans hbase ha.2.2.size) ts _ (strs_new w1 _ ts hl (by omega) (fun hm => ?_))).mono fun e w' hp => PenPost.from_ ha hp
  have := (h.1.mine hm).2
  omega

theorem types_any {w : World} {Bc Ba base : Nat} {v : Value} {T : List (List UInt8)} (hp : PenAt w Bc Ba base v T) (hbase : base ≤ w.heap.size) (t : List UInt8) (ht : t.length ≤ 40000) :
    Calls Tryd.prog 32 #[penV Bc Ba, .string (strOf t)] w (PenPost w Bc Ba base v (adv T (tyT t))) := by
  unfold penV
  by_cases h0 : t.head? = some 42
  · have hc := fun w => cut_star t w
    rw [if_pos h0] at hc
    simp only [h0, decide_true] at hc
    have HT : Hid (tyT t = if nameB t.tail = true then some [[42], t.tail] else none) := Lib.hid (by unfold tyT; rw [if_pos h0])
    have hl : t.tail.length ≤ 40000 := by rw [List.length_tail]; omega
    obtain ⟨s, hs⟩ : ∃ s, s = t.tail := ⟨_, rfl⟩
    rw [← hs] at hc HT hl
    clear hs h0
    have HP := Lib.hid hp
    have HB := Lib.hid hbase
    have HL := Lib.hid hl
    clear hp hbase hl
    go_enter Tryd.func32, Tryd.ntmps32
    go_wp2_with fail
    refine (hc _).mono ?_
    rintro e w1 ⟨rfl, rfl⟩
    clear hc
    go_wp2_with fail
    have hblk : (w.alloc (.cells #[.string (strOf s)] 9)).heap[w.heap.size]? = some (.cells #[.string (strOf s)] 9 (0, 0)) := heap_alloc_new _ _
    have hcl : (w.alloc (.cells #[.string (strOf s)] 9)).cell? ⟨w.heap.size, 0, none⟩ = some (.string (strOf s)) := by rw [cell_of_row _ w.heap.size 0 _ _ (0, 0) hblk]; rfl
    have hfr : (w.alloc (.cells #[.string (strOf s)] 9)).frozen? ⟨w.heap.size, 0, none⟩ = false := frozen_of_row _ w.heap.size 0 _ _ hblk
    have hsz : (strOf s).size ≤ 40000 := by rw [Lib.size_eq, strOf_data]; exact HL.out
    by_cases hn : nameB s = true
    · refine (takeName_yes ⟨w.heap.size, 0, none⟩ (strOf s) _ hcl hfr hsz hn).mono ?_
      rintro e w1 ⟨rfl, w2, hb2, rfl⟩
      have hw2 : Went w Bc Ba base v (w2.setCell ⟨w.heap.size, 0, none⟩ (.string ⟨#[]⟩)) v T := (((Went.refl HP.out).alloc _).below hb2).setCell _ _ (Nat.le_refl _) (fun hm => by have := (HP.out.mine hm).2; simp at this)
      have hput := put_new hw2 HB.out [[42], s] (by intro t ht; simp at ht; have := HL.out; rcases ht with rfl | rfl <;> simp; omega) (by simp)
      clear hcl hfr hblk hw2
      obtain ⟨w3, hw3⟩ : ∃ w3, w3 = w2.setCell ⟨w.heap.size, 0, none⟩ (.string ⟨#[]⟩) := ⟨_, rfl⟩
      rw [← hw3] at hput ⊢
      clear hw3
      go_wp2_with fail
      refine hput.mono ?_
      rintro e w4 hpost
      have HEQ : Hid (tyT t = some [[42], s]) := Lib.hid (by rw [HT.out, if_pos hn])
      cases hR : adv T (some [[42], s]) with
      | none =>
        rw [hR] at hpost
        obtain ⟨rfl, hch⟩ := hpost
        unfold boom
        go_wp2
        refine ⟨rfl, ?_⟩
        rw [HEQ.out, hR]
        exact ⟨rfl, hch⟩
      | some U =>
        rw [hR] at hpost
        obtain ⟨rfl, u, hwent⟩ := hpost
        have HW := Lib.hid hwent
        clear hwent
        go_wp2
        go_end0
        rw [HEQ.out, hR]
        exact ⟨rfl, u, HW.out⟩
    · have hn' : nameB s = false := by simpa using hn
      refine (takeName_no ⟨w.heap.size, 0, none⟩ (strOf s) _ hcl hsz hn').mono ?_
      rintro e w1 ⟨rfl, hb⟩
      unfold boom
      go_wp2
      refine ⟨rfl, ?_⟩
      rw [HT.out, if_neg hn]
      exact ⟨rfl, (Chg.refl _ _).alloc _ |>.trans (Chg.of_below (P := fun _ => False) hb) (fun _ _ e => e.elim)⟩
  · have hc := fun w => cut_star t w
    rw [if_neg h0] at hc
    simp only [h0, decide_false] at hc
    have HP := Lib.hid hp
    have HB := Lib.hid hbase
    have HL := Lib.hid ht
    have hst := strOf_toList t
    clear hp hbase ht
    by_cases a1 : t = [91, 93, 105, 110, 116]
    · have HT : Hid (tyT t = some [[91], [93], [105, 110, 116]]) := Lib.hid (by unfold tyT; rw [if_neg h0, if_pos a1])
      have e1 : ((strOf t).toList == [91, 93, 105, 110, 116]) = true := by rw [hst, a1]; rfl
      clear a1 hst h0
      go_enter Tryd.func32, Tryd.ntmps32
      go_wp2_with fail
      refine (hc _).mono ?_
      rintro e w1 ⟨rfl, rfl⟩
      clear hc
      go_wp2_with fail
      have hput := put_new ((Went.refl HP.out).alloc (.cells #[.string (strOf t)] 9)) HB.out [[91], [93], [105, 110, 116]] (by intro u hu; have := HL.out; simp at hu; first | (rcases hu with rfl | rfl | rfl <;> decide) | (rw [hu]; exact this)) (by simp)
      obtain ⟨w3, hw3⟩ : ∃ w3, w3 = w.alloc (.cells #[.string (strOf t)] 9) := ⟨_, rfl⟩
      have hs3 : w.heap.size + 1 = w3.heap.size := by rw [hw3]; simp
      rw [← hw3] at hput ⊢
      rw [hs3]
      clear hw3 hs3
      refine hput.mono ?_
      rintro e w9 hpost
      cases hR : adv T (some [[91], [93], [105, 110, 116]]) with
      | none =>
        rw [hR] at hpost
        obtain ⟨rfl, hch⟩ := hpost
        unfold boom
        go_wp2
        refine ⟨rfl, ?_⟩
        rw [HT.out, hR]
        exact ⟨rfl, hch⟩
      | some U =>
        rw [hR] at hpost
        obtain ⟨rfl, u, hwent⟩ := hpost
        have HWF := Lib.hid hwent
        clear hwent
        go_wp2
        go_end0
        rw [HT.out, hR]
        exact ⟨rfl, u, HWF.out⟩
    have e1 : ((strOf t).toList == [91, 93, 105, 110, 116]) = false := by rw [hst]; simpa using a1
    by_cases a2 : t = [105, 110, 116]
    · have HT : Hid (tyT t = some [t]) := Lib.hid (by unfold tyT; rw [if_neg h0, if_neg a1, if_pos (.inl a2)])
      have e2 : (strOf t).toList = [105, 110, 116] := by rw [hst, a2]
      clear a1 a2 hst h0
      go_enter Tryd.func32, Tryd.ntmps32
      go_wp2_with fail
      refine (hc _).mono ?_
      rintro e w1 ⟨rfl, rfl⟩
      clear hc
      go_wp2_with fail
      refine (must_yes _).mono ?_
      rintro e w1 ⟨rfl, rfl⟩
      go_wp2_with fail
      have hput := put_new ((Went.refl HP.out).alloc (.cells #[.string (strOf t)] 9)) HB.out [t] (by intro u hu; have := HL.out; simp at hu; first | (rcases hu with rfl | rfl | rfl <;> decide) | (rw [hu]; exact this)) (by simp)
      obtain ⟨w3, hw3⟩ : ∃ w3, w3 = w.alloc (.cells #[.string (strOf t)] 9) := ⟨_, rfl⟩
      have hs3 : w.heap.size + 1 = w3.heap.size := by rw [hw3]; simp
      rw [← hw3] at hput ⊢
      rw [hs3]
      clear hw3 hs3
      refine hput.mono ?_
      rintro e w9 hpost
      cases hR : adv T (some [t]) with
      | none =>
        rw [hR] at hpost
        obtain ⟨rfl, hch⟩ := hpost
        unfold boom
        go_wp2
        refine ⟨rfl, ?_⟩
        rw [HT.out, hR]
        exact ⟨rfl, hch⟩
      | some U =>
        rw [hR] at hpost
        obtain ⟨rfl, u, hwent⟩ := hpost
        have HWF := Lib.hid hwent
        clear hwent
        go_wp2
        go_end0
        rw [HT.out, hR]
        exact ⟨rfl, u, HWF.out⟩
    have e2 : ¬ (strOf t).toList = [105, 110, 116] := by rw [hst]; exact a2
    by_cases a3 : t = [98, 111, 111, 108]
    · have HT : Hid (tyT t = some [t]) := Lib.hid (by unfold tyT; rw [if_neg h0, if_neg a1, if_pos (.inr a3)])
      have e3 : ((strOf t).toList == [105, 110, 116] || (strOf t).toList == [98, 111, 111, 108]) = true := by rw [hst, a3]; rfl
      clear a1 a2 a3 hst h0
      go_enter Tryd.func32, Tryd.ntmps32
      go_wp2_with fail
      refine (hc _).mono ?_
      rintro e w1 ⟨rfl, rfl⟩
      clear hc
      go_wp2_with fail
      refine (must_yes _).mono ?_
      rintro e w1 ⟨rfl, rfl⟩
      go_wp2_with fail
      have hput := put_new ((Went.refl HP.out).alloc (.cells #[.string (strOf t)] 9)) HB.out [t] (by intro u hu; have := HL.out; simp at hu; first | (rcases hu with rfl | rfl | rfl <;> decide) | (rw [hu]; exact this)) (by simp)
      obtain ⟨w3, hw3⟩ : ∃ w3, w3 = w.alloc (.cells #[.string (strOf t)] 9) := ⟨_, rfl⟩
      have hs3 : w.heap.size + 1 = w3.heap.size := by rw [hw3]; simp
      rw [← hw3] at hput ⊢
      rw [hs3]
      clear hw3 hs3
      refine hput.mono ?_
      rintro e w9 hpost
      cases hR : adv T (some [t]) with
      | none =>
        rw [hR] at hpost
        obtain ⟨rfl, hch⟩ := hpost
        unfold boom
        go_wp2
        refine ⟨rfl, ?_⟩
        rw [HT.out, hR]
        exact ⟨rfl, hch⟩
      | some U =>
        rw [hR] at hpost
        obtain ⟨rfl, u, hwent⟩ := hpost
        have HWF := Lib.hid hwent
        clear hwent
        go_wp2
        go_end0
        rw [HT.out, hR]
        exact ⟨rfl, u, HWF.out⟩
    have HT : Hid (tyT t = none) := Lib.hid (by unfold tyT; rw [if_neg h0, if_neg a1, if_neg (fun h => h.elim a2 a3)])
    have e3 : ((strOf t).toList == [105, 110, 116] || (strOf t).toList == [98, 111, 111, 108]) = false := by
      rw [hst, Bool.or_eq_false_iff]; exact ⟨by simpa using a2, by simpa using a3⟩
    clear a1 a2 a3 hst h0
    go_enter Tryd.func32, Tryd.ntmps32
    go_wp2_with fail
    refine (hc _).mono ?_
    rintro e w1 ⟨rfl, rfl⟩
    clear hc
    go_wp2_with fail

    refine (must_no _).mono ?_
    rintro e w1 ⟨rfl, rfl⟩
    unfold boom
    go_wp2
    refine ⟨rfl, ?_⟩
    rw [HT.out]
    exact ⟨rfl, (Chg.refl _ _).alloc _⟩

end Go.Proofs.YtmbkjabjcphkbaaDoor
end
section
/- The walks of takeFirst, takeNum, takeBool, takeSign. -/
set_option linter.unusedVariables false
namespace Go.Proofs.YtmbkjabjcphkbaaDoor
open Go.RowKit

theorem alloc_cell {w : World} {p : Addr} {v : Value} (h : w.cell? p = some v) : ∀ o, (w.alloc o).cell? p = some v := fun o => (World.cell?_of_block (w := w) (Below.heap_alloc w o p.block (lt_of_cell h))).trans h
theorem alloc_frozen {w : World} {p : Addr} {v : Value} (h : w.cell? p = some v) (hz : w.frozen? p = false) : ∀ o, (w.alloc o).frozen? p = false := fun o => (World.frozen?_of_block (w := w) (Below.heap_alloc w o p.block (lt_of_cell h))).trans hz
theorem takeFirst_no (p : Addr) (A : Option Addr) (c : Nat) (w : World) (hc : w.cell? p = some (.slice A 0 c)) :
    Calls Tryd.prog 52 #[.pointer (some p)] w fun e w' => e = boom ∧ Below w.heap.size w w' := by
  have ac := alloc_cell hc
  go_enter Tryd.func52, Tryd.ntmps52
  go_wp2_with fail
  refine (must_no _).mono ?_
  rintro e w1 ⟨rfl, rfl⟩
  unfold boom
  go_wp2
  exact ⟨rfl, rfl, (Below.refl _ w).alloc (Nat.le_refl _) _⟩
theorem blk_set {w : World} {g : Nat} {k p n : Int} {s : ByteArray} {v : Value} (h : ExBlk w g k p n s v) {q : Addr} (hq : q.block ≠ g) (u : Value) : ExBlk (w.setCell q u) g k p n s v := (Below.heap_setCell _ _ _ _ (fun e => hq e.symm)).trans h
set_option maxHeartbeats 1000000 in
theorem takeFirst_yes (p : Addr) (b off n c : Nat) (w : World) (k pl u : Int) (s : ByteArray) (A5 : Option Addr) (n5 c5 : Nat) (hc : w.cell? p = some (.slice (some ⟨b, off, none⟩) (n + 1) c)) (hz : w.frozen? p = false) (hn : n + 1 ≤ c)
    (r0 : w.cell? ⟨b, off, none⟩ = some (.int .i64 k)) (r1 : w.cell? ⟨b, off + 1, none⟩ = some (.int .i64 pl)) (r2 : w.cell? ⟨b, off + 2, none⟩ = some (.int .i64 u)) (r3 : w.cell? ⟨b, off + 3, none⟩ = some (.string s)) (r4 : w.cell? ⟨b, off + 4, none⟩ = some (.slice A5 n5 c5)) :
    Calls Tryd.prog 52 #[.pointer (some p)] w fun e w' => e = .returned (.agg #[.int .i64 k, .int .i64 pl, .int .i64 u, .string s, .slice A5 n5 c5]) ∧
      ∃ w1 off', Below w.heap.size w w1 ∧ Below w.heap.size (w1.setCell p (.slice (some ⟨b, off', none⟩) n (c - 1))) w' ∧ (0 < n → off' = off + 5) := by
  have ac := alloc_cell hc
  obtain ⟨X, hX⟩ : ∃ X : World, X = w.alloc (.cells #[.int .i64 0, .int .i64 0, .int .i64 0, .string ⟨#[]⟩, .slice none 0 0] 24) := ⟨_, rfl⟩
  have hbX : Below w.heap.size w X := by rw [hX]; exact (Below.refl _ w).alloc (Nat.le_refl _) _
  have up : ∀ {q : Addr} {v : Value}, w.cell? q = some v → X.cell? q = some v := fun h => (hbX.cell (lt_of_cell h)).trans h
  have xz : X.frozen? p = false := (hbX.frozen (lt_of_cell hc)).trans hz
  have xc := up hc
  have x0 := alloc_cell (up r0)
  have x1 := alloc_cell (up r1)
  have x2 := alloc_cell (up r2)
  have x3 := alloc_cell (up r3)
  have x4 := alloc_cell (up r4)
  have y0 := up r0
  have y1 := up r1
  have y2 := up r2
  have y3 := up r3
  have y4 := up r4
  have yc := alloc_cell xc
  have yz := alloc_frozen xc xz
  have hpb : p.block ≠ X.heap.size := fun e => by have := lt_of_cell xc; omega
  have hblk := ExBlk.new X k pl u s (.slice A5 n5 c5)
  have hset := fun v => blk_set hblk hpb v
  have z0 := fun v => (hset v).c0
  have z1 := fun v => (hset v).c1
  have z2 := fun v => (hset v).c2
  have z3 := fun v => (hset v).c3
  have z4 := fun v => (hset v).c4
  have hbY : Below w.heap.size w (X.alloc (.cells #[.int .i64 k, .int .i64 pl, .int .i64 u, .string s, .slice A5 n5 c5] 24)) := hbX.alloc hbX.size _
  have HBY := Lib.hid hbY
  have hres : ExBlk (X.alloc (.cells #[.int .i64 k, .int .i64 pl, .int .i64 u, .string s, .slice A5 n5 c5] 24)) w.heap.size 0 0 0 ⟨#[]⟩ (.slice none 0 0) := by
    have h := ExBlk.new w 0 0 0 ⟨#[]⟩ (.slice none 0 0)
    rw [← hX] at h
    exact h.alloc (by rw [hX]; simp) _
  have hps : p.block ≠ w.heap.size := fun e => by have := lt_of_cell hc; omega
  have hrs := fun v => blk_set hres hps v
  have m0 := fun v => (hrs v).c0
  have m1 := fun v => (hrs v).c1
  have m2 := fun v => (hrs v).c2
  have m3 := fun v => (hrs v).c3
  have m4 := fun v => (hrs v).c4
  have l0 := fun v => (hrs v).fr 0
  have l1 := fun v => (hrs v).fr 1
  have l2 := fun v => (hrs v).fr 2
  have l3 := fun v => (hrs v).fr 3
  have l4 := fun v => (hrs v).fr 4
  clear hblk hset hpb hbY hres hps hrs
  by_cases hc1 : c = 1
  · subst hc1
    obtain rfl : n = 0 := by omega
    go_enter Tryd.func52, Tryd.ntmps52
    clear up r0 r1 r2 r3 r4 hbX
    have HX := Lib.hid hX
    go_wp2_with fail
    clear hc ac hz
    rw [← HX.out]
    clear hX
    refine (must_yes _).mono ?_
    rintro e w1 ⟨rfl, rfl⟩
    go_wp2_with fail
    all_goals (refine bodyPost_ret (v := .agg #[.int .i64 k, .int .i64 pl, .int .i64 u, .string s, .slice A5 n5 c5]) ?_ rfl ⟨rfl, X.alloc (.cells #[.int .i64 k, .int .i64 pl, .int .i64 u, .string s, .slice A5 n5 c5] 24), off, HBY.out, ?_, fun h => by omega⟩; simp [results, Tryd.results52, go_sem, m0, m1, m2, m3, m4]; refine Below.setCell ?_ (by simp) _; refine Below.setCell ?_ (by simp) _; refine Below.setCell ?_ (by simp) _; refine Below.setCell ?_ (by simp) _; refine Below.setCell ?_ (by simp) _; exact Below.refl _ _)
  · have hc2 : ¬ c - 1 = 0 := by omega
    go_enter Tryd.func52, Tryd.ntmps52
    clear up r0 r1 r2 r3 r4 hbX
    have HX := Lib.hid hX
    go_wp2_with fail
    clear hc ac hz
    rw [← HX.out]
    clear hX
    refine (must_yes _).mono ?_
    rintro e w1 ⟨rfl, rfl⟩
    go_wp2_with fail
    all_goals (refine bodyPost_ret (v := .agg #[.int .i64 k, .int .i64 pl, .int .i64 u, .string s, .slice A5 n5 c5]) ?_ rfl ⟨rfl, X.alloc (.cells #[.int .i64 k, .int .i64 pl, .int .i64 u, .string s, .slice A5 n5 c5] 24), off + 5, HBY.out, ?_, fun h => by omega⟩; simp [results, Tryd.results52, go_sem, m0, m1, m2, m3, m4]; refine Below.setCell ?_ (by simp) _; refine Below.setCell ?_ (by simp) _; refine Below.setCell ?_ (by simp) _; refine Below.setCell ?_ (by simp) _; refine Below.setCell ?_ (by simp) _; exact Below.refl _ _)
theorem takeNum_yes (p : Addr) (n a b : Int) (w : World) (hc : w.cell? p = some (.int .i64 n)) (hz : w.frozen? p = false) (h1 : a ≤ n) (h2 : n ≤ b) (l1 : -9223372036854775808 ≤ n) (l2 : n ≤ 9223372036854775807)
    (htab : ∀ u, Lib.TabIs Tryd.prog (w.setCell p u) "internal/strconv.uint64pow10" .u64 Lib.pow10Tab) :
    Calls Tryd.prog 54 #[.pointer (some p), .int .i64 a, .int .i64 b] w fun e w' => e = .returned (.string (strOf (Lib.itoa n))) ∧ Below w.heap.size (w.setCell p (.int .i64 0)) w' := by
  have hd : decide (n ≤ b) = true := by simpa using h2
  have HT := Lib.hid (htab (.int .i64 0))
  clear htab
  go_enter Tryd.func54, Tryd.ntmps54
  go_wp2_with fail
  refine (must_yes _).mono ?_
  rintro e w1 ⟨rfl, rfl⟩
  go_wp2_with fail
  refine (take_int p n _ hc hz).mono ?_
  rintro e w1 ⟨rfl, hw1⟩
  rw [← hw1] at HT
  go_wp2_with fail
  rw [← hw1]
  refine (strconv_Itoa n l1 l2 _ HT.out).mono ?_
  rintro e w2 ⟨rfl, k, os, rfl⟩
  go_wp2_with fail
  go_ret
  exact ⟨rfl, Lib.below_grow _ _ (by simp) _ _⟩
theorem takeNum_no (p : Addr) (n a b : Int) (w : World) (hc : w.cell? p = some (.int .i64 n)) (h : ¬ (a ≤ n ∧ n ≤ b)) :
    Calls Tryd.prog 54 #[.pointer (some p), .int .i64 a, .int .i64 b] w fun e w' => e = boom ∧ w = w' := by
  by_cases h1 : a ≤ n
  · have hd : decide (n ≤ b) = false := by rw [decide_eq_false_iff_not]; exact fun h2 => h ⟨h1, h2⟩
    clear h
    go_enter Tryd.func54, Tryd.ntmps54
    go_wp2_with fail
    refine (must_no _).mono ?_
    rintro e w1 ⟨rfl, rfl⟩
    unfold boom
    go_wp2
    exact ⟨rfl, rfl, rfl⟩
  · clear h
    go_enter Tryd.func54, Tryd.ntmps54
    go_wp2_with fail
    refine (must_no _).mono ?_
    rintro e w1 ⟨rfl, rfl⟩
    unfold boom
    go_wp2
    exact ⟨rfl, rfl, rfl⟩
theorem takeBool_yes (p : Addr) (n : Int) (w : World) (hc : w.cell? p = some (.int .i64 n)) (hz : w.frozen? p = false) (h : n = 0 ∨ n = 1) :
    Calls Tryd.prog 55 #[.pointer (some p)] w fun e w' => e = .returned (.string (strOf (if n = 1 then [116, 114, 117, 101] else [102, 97, 108, 115, 101]))) ∧ w' = w.setCell p (.int .i64 0) := by
  rcases h with rfl | rfl
  all_goals
    go_enter Tryd.func55, Tryd.ntmps55
    go_wp2_with fail
    refine (must_yes _).mono ?_
    rintro e w1 ⟨rfl, rfl⟩
    go_wp2_with fail
    refine (take_int p _ _ hc hz).mono ?_
    rintro e w1 ⟨rfl, hw1⟩
    go_wp2_with fail
    go_ret
    exact ⟨rfl, rfl⟩
theorem takeBool_no (p : Addr) (n : Int) (w : World) (hc : w.cell? p = some (.int .i64 n)) (h : ¬ (n = 0 ∨ n = 1)) :
    Calls Tryd.prog 55 #[.pointer (some p)] w fun e w' => e = boom ∧ w = w' := by
  have h0 : ¬ n = 0 := fun e => h (.inl e)
  have hd : (n == 0 || n == 1) = false := by rw [Bool.or_eq_false_iff]; exact ⟨by simpa using h0, by simpa using fun e => h (.inr e)⟩
  clear h
  go_enter Tryd.func55, Tryd.ntmps55
  go_wp2_with fail
  refine (must_no _).mono ?_
  rintro e w1 ⟨rfl, rfl⟩
  unfold boom
  go_wp2
  exact ⟨rfl, rfl, rfl⟩
set_option maxRecDepth 100000 in
theorem takeSign_any (p : Addr) (s : List UInt8) (g n c : Nat) (zs : List ByteArray) (w : World) (hc : w.cell? p = some (.string (strOf s))) (hz : w.frozen? p = false) (hn : n = zs.length) (hb : n ≤ 1000)
    (hcs : ∀ j, j < zs.length → w.cell? ⟨g, 0 + j, none⟩ = some (.string (zs.getD j ⟨#[]⟩))) (t : Bool) (ht : t = Lib.containsS zs (strOf s)) :
    Calls Tryd.prog 56 #[.pointer (some p), .slice (some ⟨g, 0, none⟩) n c] w fun e w' => (t = true → e = .returned (.string (strOf s)) ∧ w' = w.setCell p (.string ⟨#[]⟩)) ∧ (t = false → e = boom ∧ w = w') := by
  have hcon := slices_Contains_string g 0 n c zs (strOf s) w (by omega) (by omega) hcs
  rw [hn, List.take_length, ← ht, ← hn] at hcon
  have HC := Lib.hid hcon
  clear hcon hcs ht hn hb
  cases t with
  | true =>
    go_enter Tryd.func56, Tryd.ntmps56
    go_wp2_with fail
    refine HC.out.mono ?_
    rintro e w1 ⟨rfl, rfl⟩
    go_wp2_with fail
    refine (must_yes _).mono ?_
    rintro e w2 ⟨rfl, rfl⟩
    go_wp2_with fail
    refine (take_string p _ _ hc hz).mono ?_
    rintro e w2 ⟨rfl, hw2⟩
    go_wp2_with fail
    go_ret
    exact ⟨fun _ => ⟨rfl, rfl⟩, fun h => by cases h⟩
  | false =>
    go_enter Tryd.func56, Tryd.ntmps56
    go_wp2_with fail
    refine HC.out.mono ?_
    rintro e w1 ⟨rfl, rfl⟩
    go_wp2_with fail
    refine (must_no _).mono ?_
    rintro e w2 ⟨rfl, rfl⟩
    unfold boom
    go_wp2
    exact ⟨rfl, fun h => by (cases h), fun _ => ⟨rfl, rfl⟩⟩

end Go.Proofs.YtmbkjabjcphkbaaDoor
end
section
/- An expression's tokens, kind by kind, in the order in which they are written. -/
set_option linter.unusedVariables false
namespace Go.Proofs.YtmbkjabjcphkbaaDoor
open Go.RowKit

/-- what an argument writes, with texts behind -/
def argC (es : List Ex) (d : Int) (ts : List (List UInt8)) : Ts := match es with
  | [] => none
  | a :: _ => cat (penE a (d + 1) 0) (some ts)
/-- what an object writes, with texts behind -/
def objC (es : List Ex) (d ch : Int) (ts : List (List UInt8)) : Ts := if ch < 8 then (match es with
  | [] => none
  | a :: _ => cat (penE a d (ch + 1)) (some ts)) else none
theorem need_yes {p : Prop} [Decidable p] (h : p) (c : Ts) : need p c = c := if_pos h
theorem need_no {p : Prop} [Decidable p] (h : ¬ p) (c : Ts) : need p c = none := if_neg h

theorem objC_no {ch : Int} (h : ¬ ch < 8) (es : List Ex) (d : Int) (ts : List (List UInt8)) : objC es d ch ts = none := if_neg h

section
variable (p n : Int) (s : List UInt8) (args : List Ex) (d ch : Int)
theorem penE_deep (k : Int) (h : ¬ d ≤ 24) : penE (.mk k p n s args) d ch = none := by
  rw [penE, if_neg (fun e => h e.1)]
theorem penE_1 (hd : d ≤ 24) : penE (.mk 1 p n s args) d ch = cat (need (0 ≤ n ∧ n ≤ 999999999999999999) (some [])) (cat (some [Lib.itoa n]) (need (s = [] ∧ args.length = 0) (some []))) := by
  rw [penE]
  by_cases h1 : 0 ≤ n ∧ n ≤ 999999999999999999
  · by_cases h2 : s = [] ∧ args.length = 0
    · obtain rfl := List.eq_nil_of_length_eq_zero h2.2
      rw [need_yes h1, need_yes h2, if_pos ⟨hd, by simp [headB, h1, h2], rfl⟩]
      simp [penAs, shapeE, cat]
    · rw [need_no h2, cat_none_r, cat_none_r, if_neg]
      rintro ⟨_, h3, h4⟩
      exact h2 ⟨by simp [headB] at h3; exact h3.2.2, h4⟩
  · rw [need_no h1, cat_none_l, if_neg]
    rintro ⟨_, h3, _⟩
    exact h1 (by simp [headB] at h3; exact ⟨h3.1, h3.2.1⟩)
theorem penE_2 (hd : d ≤ 24) : penE (.mk 2 p n s args) d ch = cat (need (n = 0 ∨ n = 1) (some [])) (cat (some [if n = 1 then [116, 114, 117, 101] else [102, 97, 108, 115, 101]]) (need (s = [] ∧ args.length = 0) (some []))) := by
  rw [penE]
  by_cases h1 : n = 0 ∨ n = 1
  · by_cases h2 : s = [] ∧ args.length = 0
    · obtain rfl := List.eq_nil_of_length_eq_zero h2.2
      rw [need_yes h1, need_yes h2, if_pos ⟨hd, by simp [headB, h1, h2], rfl⟩]
      rcases h1 with h1 | h1 <;> subst h1 <;> simp [penAs, shapeE, cat]
    · rw [need_no h2, cat_none_r, cat_none_r, if_neg]
      rintro ⟨_, h3, h4⟩
      exact h2 ⟨by simp [headB] at h3; exact h3.2, h4⟩
  · rw [need_no h1, cat_none_l, if_neg]
    rintro ⟨_, h3, _⟩
    exact h1 (by simp [headB] at h3; exact h3.1)
theorem penE_3 (hd : d ≤ 24) : penE (.mk 3 p n s args) d ch = cat (some [[110, 105, 108]]) (need (n = 0 ∧ s = [] ∧ args.length = 0) (some [])) := by
  rw [penE]
  by_cases h2 : n = 0 ∧ s = [] ∧ args.length = 0
  · obtain rfl := List.eq_nil_of_length_eq_zero h2.2.2
    rw [need_yes h2, if_pos ⟨hd, by simp [headB, h2], rfl⟩]
    simp [penAs, shapeE, cat]
  · rw [need_no h2, cat_none_r, if_neg]
    rintro ⟨_, h3, h4⟩
    exact h2 (by simp [headB] at h3; exact ⟨h3.1, h3.2, h4⟩)
theorem penE_name (k : Int) (hk : k = 4 ∨ k = 11 ∨ k = 13) (hd : d ≤ 24) : penE (.mk k p n s args) d ch = cat (need (nameB s = true) (some [])) (cat (some (if k = 4 then [s] else if k = 11 then [[110, 101, 119], s] else [[114, 101, 108, 101, 97, 115, 101], s])) (need (n = 0 ∧ args.length = 0) (some []))) := by
  rw [penE]
  by_cases h1 : nameB s = true
  · by_cases h2 : n = 0 ∧ args.length = 0
    · obtain rfl := List.eq_nil_of_length_eq_zero h2.2
      rw [need_yes h1, need_yes h2]
      rcases hk with h | h | h <;> subst h <;> (rw [if_pos ⟨hd, by simp [headB, h1, h2], rfl⟩]; simp [penAs, shapeE, cat])
    · rw [need_no h2, cat_none_r, cat_none_r, if_neg]
      rintro ⟨_, h3, h4⟩
      rcases hk with h | h | h <;> subst h <;> exact h2 ⟨by simp [headB] at h3; exact h3.1, h4⟩
  · rw [need_no h1, cat_none_l, if_neg]
    rintro ⟨_, h3, _⟩
    rcases hk with h | h | h <;> subst h <;> exact h1 (by simp [headB] at h3; exact h3.2)
theorem penE_5 (hd : d ≤ 24) : penE (.mk 5 p n s args) d ch = cat (need (nameB s = true) (some [])) (cat (objC args d ch [[46], s]) (need (n = 0 ∧ args.tail.length = 0) (some []))) := by
  rw [penE]
  by_cases h1 : nameB s = true
  · by_cases hc : ch < 8
    · by_cases hn : n = 0
      · match args with
        | [] => simp [argsN, objC, hc, cat_none_l, cat_none_r]
        | [a] =>
          rw [need_yes h1, need_yes ⟨hn, rfl⟩, if_pos ⟨hd, by simp [headB, h1, hc, hn], rfl⟩]
          simp only [objC, if_pos hc, penAs, show behindB 5 = true from rfl, if_true]
          cases penE a d (ch + 1) with
          | none => rfl
          | some x => simp [cat, shapeE]
        | a :: b :: r =>
          rw [need_no (p := n = 0 ∧ (a :: b :: r).tail.length = 0) (by simp), cat_none_r, cat_none_r, if_neg]
          rintro ⟨_, _, h4⟩
          simp [argsN] at h4
      · rw [need_no (p := n = 0 ∧ args.tail.length = 0) (fun h => hn h.1), cat_none_r, cat_none_r, if_neg]
        rintro ⟨_, h3, _⟩
        exact hn (by simp [headB] at h3; exact h3.1)
    · rw [objC_no hc, cat_none_l, cat_none_r, if_neg]
      rintro ⟨_, h3, _⟩
      exact hc (by simp [headB] at h3; exact h3.2.2)
  · rw [need_no h1, cat_none_l, if_neg]
    rintro ⟨_, h3, _⟩
    exact h1 (by simp [headB] at h3; exact h3.2.1)
theorem penE_6 (hd : d ≤ 24) : penE (.mk 6 p n s args) d ch = cat (objC args d ch [[91]]) (cat (argC args.tail d [[93]]) (need (n = 0 ∧ s = [] ∧ args.tail.tail.length = 0) (some []))) := by
  rw [penE]
  by_cases hc : ch < 8
  · by_cases hn : n = 0 ∧ s = []
    · match args with
      | [] => simp [argsN, objC, hc, cat_none_l]
      | [a] => simp [argsN, argC, cat_none_l, cat_none_r]
      | [a, b] =>
        rw [need_yes ⟨hn.1, hn.2, rfl⟩, if_pos ⟨hd, by simp [headB, hc, hn], rfl⟩]
        simp only [objC, if_pos hc, argC, List.tail_cons, penAs, show behindB 6 = true from rfl, if_true, Bool.false_eq_true, if_false]
        cases penE a d (ch + 1) with
        | none => rfl
        | some x =>
          cases penE b (d + 1) 0 with
          | none => rfl
          | some y => simp [cat, shapeE]
      | a :: b :: c :: r =>
        rw [need_no (p := n = 0 ∧ s = [] ∧ (a :: b :: c :: r).tail.tail.length = 0) (by simp), cat_none_r, cat_none_r, if_neg]
        rintro ⟨_, _, h4⟩
        simp [argsN] at h4
    · rw [need_no (p := n = 0 ∧ s = [] ∧ args.tail.tail.length = 0) (fun h => hn ⟨h.1, h.2.1⟩), cat_none_r, cat_none_r, if_neg]
      rintro ⟨_, h3, _⟩
      exact hn (by simp [headB] at h3; exact ⟨h3.1, h3.2.1⟩)
  · rw [objC_no hc, cat_none_l, if_neg]
    rintro ⟨_, h3, _⟩
    exact hc (by simp [headB] at h3; exact h3.2.2)
theorem penE_7 (hd : d ≤ 24) : penE (.mk 7 p n s args) d ch = cat (objC args d ch [[91]]) (cat (argC args.tail d [[58]]) (cat (argC args.tail.tail d [[93]]) (need (n = 0 ∧ s = [] ∧ args.tail.tail.tail.length = 0) (some [])))) := by
  rw [penE]
  by_cases hc : ch < 8
  · by_cases hn : n = 0 ∧ s = []
    · match args with
      | [] => simp [argsN, objC, hc, cat_none_l]
      | [a] => simp [argsN, argC, cat_none_l, cat_none_r]
      | [a, b] => simp [argsN, argC, cat_none_l, cat_none_r]
      | [a, b, c] =>
        rw [need_yes ⟨hn.1, hn.2, rfl⟩, if_pos ⟨hd, by simp [headB, hc, hn], rfl⟩]
        simp only [objC, if_pos hc, argC, List.tail_cons, penAs, show behindB 7 = true from rfl, if_true, Bool.false_eq_true, if_false]
        cases penE a d (ch + 1) with
        | none => rfl
        | some x =>
          cases penE b (d + 1) 0 with
          | none => rfl
          | some y =>
            cases penE c (d + 1) 0 with
            | none => rfl
            | some z => simp [cat, shapeE]
      | a :: b :: c :: e :: r =>
        rw [need_no (p := n = 0 ∧ s = [] ∧ (a :: b :: c :: e :: r).tail.tail.tail.length = 0) (by simp), cat_none_r, cat_none_r, cat_none_r, if_neg]
        rintro ⟨_, _, h4⟩
        simp [argsN] at h4
    · rw [need_no (p := n = 0 ∧ s = [] ∧ args.tail.tail.tail.length = 0) (fun h => hn ⟨h.1, h.2.1⟩), cat_none_r, cat_none_r, cat_none_r, if_neg]
      rintro ⟨_, h3, _⟩
      exact hn (by simp [headB] at h3; exact ⟨h3.1, h3.2.1⟩)
  · rw [objC_no hc, cat_none_l, if_neg]
    rintro ⟨_, h3, _⟩
    exact hc (by simp [headB] at h3; exact h3.2.2)
theorem penE_call (k : Int) (hk : k = 8 ∨ k = 12) (hd : d ≤ 24) : penE (.mk k p n s args) d ch = cat (some (if k = 8 then [[108, 101, 110], [40]] else [[109, 97, 107, 101], [40]])) (cat (argC args d [[41]]) (need (n = 0 ∧ s = [] ∧ args.tail.length = 0) (some []))) := by
  rw [penE]
  by_cases hn : n = 0 ∧ s = []
  · match args with
    | [] => rcases hk with h | h <;> subst h <;> simp [argsN, argC, cat_none_l, cat_none_r]
    | [a] =>
      rw [need_yes ⟨hn.1, hn.2, rfl⟩]
      rcases hk with h | h <;> subst h <;>
      · rw [if_pos ⟨hd, by simp [headB, hn], rfl⟩]
        simp only [argC, penAs, show behindB 8 = false from rfl, show behindB 12 = false from rfl, Bool.false_eq_true, if_false]
        cases penE a (d + 1) 0 with
        | none => rfl
        | some x => simp [cat, shapeE]
    | a :: b :: r =>
      rw [need_no (p := n = 0 ∧ s = [] ∧ (a :: b :: r).tail.length = 0) (by simp), cat_none_r, cat_none_r, if_neg]
      rintro ⟨_, _, h4⟩
      rcases hk with h | h <;> subst h <;> simp [argsN] at h4
  · rw [need_no (p := n = 0 ∧ s = [] ∧ args.tail.length = 0) (fun h => hn ⟨h.1, h.2.1⟩), cat_none_r, cat_none_r, if_neg]
    rintro ⟨_, h3, _⟩
    rcases hk with h | h <;> subst h <;> exact hn (by simp [headB] at h3; exact h3)
theorem penE_9 (hd : d ≤ 24) : penE (.mk 9 p n s args) d ch = cat (need (s = [45] ∨ s = [33]) (some [])) (cat (some [[40], s]) (cat (argC args d [[41]]) (need (n = 0 ∧ args.tail.length = 0) (some [])))) := by
  rw [penE]
  by_cases h1 : s = [45] ∨ s = [33]
  · by_cases hn : n = 0
    · match args with
      | [] => simp [argsN, argC, cat_none_l, cat_none_r]
      | [a] =>
        rw [need_yes h1, need_yes ⟨hn, rfl⟩, if_pos ⟨hd, by simp [headB, h1, hn], rfl⟩]
        simp only [argC, penAs, show behindB 9 = false from rfl, Bool.false_eq_true, if_false]
        cases penE a (d + 1) 0 with
        | none => rfl
        | some x => simp [cat, shapeE]
      | a :: b :: r =>
        rw [need_no (p := n = 0 ∧ (a :: b :: r).tail.length = 0) (by simp), cat_none_r, cat_none_r, cat_none_r, if_neg]
        rintro ⟨_, _, h4⟩
        simp [argsN] at h4
    · rw [need_no (p := n = 0 ∧ args.tail.length = 0) (fun h => hn h.1), cat_none_r, cat_none_r, cat_none_r, if_neg]
      rintro ⟨_, h3, _⟩
      exact hn (by simp [headB] at h3; exact h3.1)
  · rw [need_no h1, cat_none_l, if_neg]
    rintro ⟨_, h3, _⟩
    exact h1 (by simp [headB] at h3; exact h3.2)
theorem penE_10 (hd : d ≤ 24) : penE (.mk 10 p n s args) d ch = cat (some [[40]]) (cat (need (s ∈ opsL) (some [])) (cat (argC args d [s]) (cat (argC args.tail d [[41]]) (need (n = 0 ∧ args.tail.tail.length = 0) (some []))))) := by
  rw [penE]
  by_cases h1 : s ∈ opsL
  · by_cases hn : n = 0
    · match args with
      | [] => simp [argsN, argC, cat_none_l, cat_none_r]
      | [a] => simp [argsN, argC, cat_none_l, cat_none_r]
      | [a, b] =>
        rw [need_yes h1, need_yes ⟨hn, rfl⟩, if_pos ⟨hd, by simp [headB, h1, hn], rfl⟩]
        simp only [argC, List.tail_cons, penAs, show behindB 10 = false from rfl, Bool.false_eq_true, if_false]
        cases penE a (d + 1) 0 with
        | none => rfl
        | some x =>
          cases penE b (d + 1) 0 with
          | none => rfl
          | some y => simp [cat, shapeE]
      | a :: b :: c :: r =>
        rw [need_no (p := n = 0 ∧ (a :: b :: c :: r).tail.tail.length = 0) (by simp), cat_none_r, cat_none_r, cat_none_r, cat_none_r, if_neg]
        rintro ⟨_, _, h4⟩
        simp [argsN] at h4
    · rw [need_no (p := n = 0 ∧ args.tail.tail.length = 0) (fun h => hn h.1), cat_none_r, cat_none_r, cat_none_r, cat_none_r, if_neg]
      rintro ⟨_, h3, _⟩
      exact hn (by simp [headB] at h3; exact h3.1)
  · rw [need_no h1, cat_none_l, cat_none_r, if_neg]
    rintro ⟨_, h3, _⟩
    exact h1 (by simp [headB] at h3; exact h3.2)
theorem penE_8 (hd : d ≤ 24) : penE (.mk 8 p n s args) d ch = cat (some [[108, 101, 110], [40]]) (cat (argC args d [[41]]) (need (n = 0 ∧ s = [] ∧ args.tail.length = 0) (some []))) := penE_call p n s args d ch 8 (.inl rfl) hd
theorem penE_12 (hd : d ≤ 24) : penE (.mk 12 p n s args) d ch = cat (some [[109, 97, 107, 101], [40]]) (cat (argC args d [[41]]) (need (n = 0 ∧ s = [] ∧ args.tail.length = 0) (some []))) := penE_call p n s args d ch 12 (.inr rfl) hd
theorem penE_4 (hd : d ≤ 24) : penE (.mk 4 p n s args) d ch = cat (need (nameB s = true) (some [])) (cat (some [s]) (need (n = 0 ∧ args.length = 0) (some []))) := penE_name p n s args d ch 4 (.inl rfl) hd
theorem penE_11 (hd : d ≤ 24) : penE (.mk 11 p n s args) d ch = cat (need (nameB s = true) (some [])) (cat (some [[110, 101, 119], s]) (need (n = 0 ∧ args.length = 0) (some []))) := penE_name p n s args d ch 11 (.inr (.inl rfl)) hd
theorem penE_13 (hd : d ≤ 24) : penE (.mk 13 p n s args) d ch = cat (need (nameB s = true) (some [])) (cat (some [[114, 101, 108, 101, 97, 115, 101], s]) (need (n = 0 ∧ args.length = 0) (some []))) := penE_name p n s args d ch 13 (.inr (.inr rfl)) hd
theorem need_cat_yes {q : Prop} [Decidable q] (h : q) (c : Ts) : cat (need q (some [])) c = c := by rw [need_yes h, cat_nil_l]
theorem need_cat_no {q : Prop} [Decidable q] (h : ¬ q) (c : Ts) : cat (need q (some [])) c = none := by rw [need_no h, cat_none_l]
theorem penE_else (k : Int) (hk : k < 1 ∨ 13 < k) : penE (.mk k p n s args) d ch = none := by
  rw [penE, if_neg]
  rintro ⟨_, h3, _⟩
  unfold headB at h3
  rw [if_neg (show ¬ k = 1 by omega), if_neg (show ¬ k = 2 by omega), if_neg (show ¬ k = 3 by omega), if_neg (show ¬ k = 4 by omega), if_neg (show ¬ k = 5 by omega), if_neg (show ¬ k = 6 by omega), if_neg (show ¬ k = 7 by omega), if_neg (show ¬ k = 8 by omega), if_neg (show ¬ k = 9 by omega), if_neg (show ¬ k = 10 by omega), if_neg (show ¬ k = 11 by omega), if_neg (show ¬ k = 12 by omega), if_neg (show ¬ k = 13 by omega)] at h3
  cases h3
end

end Go.Proofs.YtmbkjabjcphkbaaDoor
end
