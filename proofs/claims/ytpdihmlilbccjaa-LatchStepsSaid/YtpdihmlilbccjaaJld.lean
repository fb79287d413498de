/- slices.Repeat of one number; slices.Sort of a list of a call's own; the table's New. -/
import Derived.Test.YtpdihmlilbccjaaJlb
import Derived.Test.YtpdihmlilbccjaaJlc
import Derived.Sort.OwnSortedInts
import Derived.Laws.CopyOwn
import Derived.Deep.RegionHeldLaw
import Derived.Deep.Cut
set_option linter.unusedVariables false
set_option linter.unusedSimpArgs false
namespace Go.Proofs.Ytpdihmlilbccjaa
open Go.RowKit

/-- a row of k numbers, m of them put -/
def rowR (k m : Nat) : List Value := List.replicate m (.int .i64 (-1)) ++ List.replicate (k - m) (.int .i64 0)
theorem rowR_len {k m : Nat} (h : m ≤ k) : (rowR k m).length = k := by simp [rowR]; omega
theorem rowR_next {k m d : Nat} (h : m + d ≤ k) : splice (rowR k m) m (List.replicate d (.int .i64 (-1))) = rowR k (m + d) := by
  unfold splice rowR
  rw [List.take_left' (by simp), List.length_replicate, ← List.append_assoc, ← List.replicate_append_replicate]
  congr 1
  rw [List.drop_append, List.drop_replicate, List.drop_replicate]
  simp
  omega
theorem made_ints (k : Nat) : madeCells #[.int .i64 0] (k * 1) = (rowR k 0).toArray := by
  rw [Nat.mul_one]
  have := toList_madeCells_one (.int .i64 0) k
  rw [← Array.toArray_toList (xs := madeCells _ k), this]
  simp [rowR]
theorem mk_ints (w : World) (k : Nat) (hk : k ≤ 8) : (Instr.makeSlice 23 (.int .i64 (k : Nat)) (.int .i64 (k : Nat))).run Try.prog w =
    .ok (.slice (some ⟨w.heap.size, 0, none⟩) k k) (w.alloc (.cells (rowR k 0).toArray 3)) := by
  obtain ⟨i, hi, hz, hs, hb⟩ := info_parts info_i
  have := run_makeSlice (P := Try.prog) w 23 3 i _ Try.underlying23 hi hz .i64 .i64 k k (by omega) (Int.le_refl _) (by rw [hs]; omega) (by rw [hb]; omega) (by omega)
  rw [hs, Int.toNat_natCast] at this
  rw [this, ← made_ints]
  rfl

theorem copy_run {V : World} {g k m : Nat} (hV : V.heap[g]? = some (.cells (rowR k m).toArray 3 (0, 0))) (hm : m ≤ k) (src : Addr) (sLen sCap dCap n : Nat) (hn : n = Nat.min sLen (k - m)) (hsrc : ∀ j, j < n → V.cell? (src.add j) = some (.int .i64 (-1))) :
    ∃ V', (Builtin.copy_ #[23, 23] 3 #[.slice (some ⟨g, m, none⟩) (k - m) dCap, .slice (some src) sLen sCap]).run Try.prog V = .ok (.int .i64 (n : Nat)) V' ∧ V'.heap[g]? = some (.cells (rowR k (m + n)).toArray 3 (0, 0)) ∧ Chg (some g) g V V' := by
  have hle : n ≤ k - m := by rw [hn]; exact Nat.min_le_right _ _
  have hr := run_copy_row (P := Try.prog) V 23 23 3 3 g m (k - m) dCap src sLen sCap (rowR k m).toArray 3 (List.replicate n (.int .i64 (-1))) Try.underlying23 (by kernel_rfl) hV (by simpa using hn)
    (fun j v hj => by
      rw [List.getElem?_replicate] at hj
      split at hj
      · rename_i h1
        injection hj with hj
        rw [← hj]
        exact hsrc j h1
      · cases hj) (by have := rowR_len hm; simp [this]; omega) (fun v hv => by rw [(List.mem_replicate.1 hv).2]; rfl)
  rw [List.length_replicate] at hr
  refine ⟨_, hr, ?_, by simp [World.setRow], fun b hb hne => setRow_other V g b _ (fun e => hne (by rw [e])), below_setRow (Below.refl _ _) (Nat.le_refl _) _⟩
  rw [setRow_heap V g _ _ _ _ hV, ← rowR_next (show m + n ≤ k by omega)]
  simp [splice]

set_option maxRecDepth 100000 in
set_option maxHeartbeats 2000000 in
theorem repeat_any {w : World} {b : Nat} (hc : w.cell? ⟨b, 0, none⟩ = some (.int .i64 (-1))) (k : Nat) (hk : k ≤ 8) :
    Calls Try.prog 23 #[.slice (some ⟨b, 0, none⟩) 1 1, .int .i64 (k : Nat)] w fun e w' => ∃ g, e = .returned (.slice (some ⟨g, 0, none⟩) k k) ∧ OwnN w' w.heap.size (.slice (some ⟨g, 0, none⟩) k k) (List.replicate k (-1)) ∧ Below w.heap.size w w' := by
  have HM := Lib.hid (bits_Mul 1 k (by omega) (by omega) w)
  rw [show 1 * k / 18446744073709551616 = 0 from by omega, show 1 * k % 18446744073709551616 = k from by omega] at HM
  have hmk := mk_ints w k hk
  have hbl : b < w.heap.size := World.block_lt_of_cell? w _ hc
  have hcw : (w.alloc (.cells (rowR k 0).toArray 3)).cell? ⟨b, 0, none⟩ = some (.int .i64 (-1)) := (World.cell?_of_block (Below.heap_alloc _ _ _ hbl)).trans hc
  obtain ⟨V, hV⟩ : ∃ V, V = w.alloc (.cells (rowR k 0).toArray 3) := ⟨_, rfl⟩
  have hg : V.heap[w.heap.size]? = some (.cells (rowR k 0).toArray 3 (0, 0)) := by rw [hV]; exact heap_alloc_new _ _
  have HB := Lib.hid ((Below.refl w.heap.size w).alloc (Nat.le_refl _) (.cells (rowR k 0).toArray 3))
  rw [← hV] at hmk HB hcw
  obtain ⟨V1, hcp, hg1, hc1⟩ := copy_run hg (Nat.zero_le _) ⟨b, 0, none⟩ 1 1 k (min 1 k) rfl (fun j hj => by
    obtain rfl : j = 0 := by omega
    rw [add_none]
    exact hcw)
  rw [Nat.sub_zero] at hcp
  rw [Nat.zero_add] at hg1
  have HB1 := Lib.hid (HB.out.trans hc1.bel)
  have HG1 := Lib.hid hg1
  obtain ⟨d, hd⟩ : ∃ d, d = min 1 k := ⟨_, rfl⟩
  rw [← hd] at hcp HG1
  have hd0 : d ≤ k ∧ (1 ≤ d ∨ k = 0) := by omega
  obtain ⟨g, hge⟩ : ∃ g, g = w.heap.size := ⟨_, rfl⟩
  rw [← hge] at hmk hcp HG1 HB1 ⊢
  clear hV hg HB hcw hc1 hg1 hd hc hge
  go_enter Try.func23, Try.ntmps23
  go_wp2_with fail
  refine HM.out.mono ?_
  rintro e w1 ⟨rfl, hw1⟩
  rw [hw1]
  clear hw1 HM w1
  go_wp2_with fail
  go_loopw [8] (fun i wr => ∃ m : Nat, m ≤ k ∧ (1 ≤ m ∨ k = 0) ∧ i = .int .i64 (m : Nat) ∧ Hid (wr.heap[g]? = some (.cells (rowR k m).toArray 3 (0, 0))) ∧ Hid (Below g w wr)) (fun i _ => k - (intOf i).toNat)
  case atStart => exact ⟨d, hd0.1, hd0.2, rfl, HG1, HB1⟩
  case round =>
    obtain ⟨wo, rfl⟩ : ∃ wo : World, wo = wr := ⟨_, rfl⟩
    obtain ⟨m, hm, hm1, rfl, HG, HB⟩ := hrel
    clear hd0 HG1 HB1 hcp hmk
    by_cases hlt : m < k
    · obtain ⟨n, hn⟩ : ∃ n, n = Nat.min m (k - m) := ⟨_, rfl⟩
      have hn1 : 1 ≤ n ∧ n ≤ k - m ∧ n ≤ m := by
        have h1 : Nat.min m (k - m) = min m (k - m) := rfl
        rw [h1] at hn
        omega
      obtain ⟨cs, hcs⟩ : ∃ cs, cs = List.replicate n (Value.int .i64 (-1)) := ⟨_, rfl⟩
      have HL : Hid (cs.length = n) := Lib.hid (by rw [hcs]; simp)
      have HNN : Hid (cs.length = Nat.min m (k - m)) := Lib.hid (by rw [HL.out, hn])
      have HS : Hid (∀ j v, cs[j]? = some v → wo.cell? ((⟨g, 0, none⟩ : Addr).add j) = some v) := Lib.hid (fun j v hj => by
        rw [hcs, List.getElem?_replicate] at hj
        split at hj
        · rename_i h1
          injection hj with hj
          rw [add_none, Nat.zero_add, cell_of_row wo g j _ _ _ HG.out, ← hj]
          simp [rowR]
          rw [List.getElem?_append_left (by simp; omega), List.getElem?_replicate, if_pos (by omega)]
        · cases hj)
      have HFT : Hid (m + cs.length ≤ (rowR k m).length) := Lib.hid (by rw [HL.out, rowR_len hm]; omega)
      have HO : Hid (∀ v ∈ cs, v.oneCell' = true) := Lib.hid (fun v hv => by rw [hcs] at hv; rw [(List.mem_replicate.1 hv).2]; rfl)
      have HSP : Hid (splice (rowR k m) m cs = rowR k (m + n)) := Lib.hid (by rw [hcs]; exact rowR_next (by omega))
      have HK : Hid (k = m + (k - m)) := Lib.hid (by omega)
      have HKM : Hid (¬ k = m) := Lib.hid (by omega)
      clear hcs hn
      go_wp2_with fail
      go_region_law (refine step_copy_splice rfl (.tmp 41) (.tmp 44) 23 23 rfl 3 Try.underlying23 (by kernel_rfl) (some ⟨g, m, none⟩) (some ⟨g, 0, none⟩) (k - m) (k - m) m k (by have h := HKM.out; simp [Act.eval, Act.put, h]) (by simp [Act.eval, Act.put]) g m (rowR k m) 3 HG.out cs HNN.out (fun _ => ⟨rfl, ⟨g, 0, none⟩, rfl, HS.out⟩) HFT.out HO.out g wo.drew (Below.refl _ _) (Nat.le_refl _) ?_; intro w4 hg4 hb4)
      have hW : IntKind.i64.wrap ((m : Int) + (cs.length : Nat)) = ((m + n : Nat) : Int) := by rw [HL.out, IntKind.wrap_i64]; omega
      rw [hW]
      have HG4 := Lib.hid (show w4.heap[g]? = some (.cells (rowR k (m + n)).toArray 3 (0, 0)) from by rw [← HSP.out]; exact hg4.out)
      have HB4 := Lib.hid (HB.out.trans ((show Below g wo wo.drew from ⟨rfl, rfl, rfl, Nat.le_refl _, fun _ _ => rfl⟩).trans hb4))
      clear hW hg4 hb4 HNN HS HFT HO HSP HK HKM HL HG HB
      go_simp
      go_roundw
      case rel =>
        refine ⟨_, _, _, _, _, _, _, _, _, _, _, _, _, _, ⟨m + n, by omega, by omega, ?_, HG4, HB4⟩, rfl⟩
        rw [Int.natCast_add]
      case measure => simp [intOf]; omega
    · obtain rfl : m = k := by omega
      go_wp2_with fail
      go_ret
      have hr : (rowR m m).toArray = ((List.replicate m (-1)).map vI).toArray := by simp [rowR, vI]
      have h1 := HG.out
      rw [hr] at h1
      exact ⟨_, rfl, ⟨by simp, .inr ⟨g, m, _, by simp, Nat.le_refl _, h1, by simp, by unfold maxLen; omega, by simp, by simp⟩⟩, HB.out⟩

def NewLt (w : World) (n : Int) (e : Ending) (w' : World) : Prop := ∃ h g c, e = .returned (.pointer (some ⟨h, 0, none⟩)) ∧ LtAt w' w.heap.size h g c (newM n) ∧ Below w.heap.size w w'
theorem new_done {w w1 : World} {n : Int} {k g : Nat} (hk : (min (max n 0) 8).toNat = k) (ho : OwnN w1 (w.alloc (.cells #[.int .i64 (-1)] 3)).heap.size (.slice (some ⟨g, 0, none⟩) k k) (List.replicate k (-1)))
    (hb : Below (w.alloc (.cells #[.int .i64 (-1)] 3)).heap.size (w.alloc (.cells #[.int .i64 (-1)] 3)) w1) : NewLt w n (.returned (.pointer (some ⟨w1.heap.size, 0, none⟩))) (w1.alloc (.cells #[.slice (some ⟨g, 0, none⟩) k k] 48)) := by
  have hs : w.heap.size + 1 ≤ w1.heap.size := by have := hb.size; simpa using this
  have hB : Below w.heap.size w w1 := ((Below.refl w.heap.size w).alloc (Nat.le_refl _) _).trans (hb.mono (by simp))
  have hl : (newM n).length = k := by unfold newM; rw [hk]; simp
  refine ⟨_, g, k, rfl, ⟨by omega, ?_, ?_, good_new n⟩, hB.alloc (by omega) _⟩
  · rw [heap_alloc_new, hl]
  · rw [hl, show newM n = List.replicate k (-1) from by unfold newM; rw [hk]]
    exact (ho.mono (by simp)).alloc _
set_option maxRecDepth 100000 in
theorem newLt_any (w : World) (n : Int) (hn : In64 n) : Calls Try.prog 8 #[.int .i64 n] w (NewLt w n) := by
  unfold In64 at hn
  obtain ⟨k, hk⟩ : ∃ k : Nat, min (max n 0) 8 = (k : Int) := ⟨(min (max n 0) 8).toNat, by omega⟩
  have HE := Lib.hid hk
  have HK := Lib.hid (show (min (max n 0) 8).toNat = k from by omega)
  have HR := Lib.hid (repeat_any (w := w.alloc (.cells #[.int .i64 (-1)] 3)) (b := w.heap.size) (by have := new_cell w (.int .i64 (-1)) 3; rw [add_none] at this; exact this) k (by omega))
  clear hk
  go_enter Try.func8, Try.ntmps8
  go_wp2_with fail
  rw [HE.out]
  refine HR.out.mono ?_
  rintro e w1 ⟨g, rfl, ho, hb⟩
  have HO := Lib.hid ho
  have HB := Lib.hid hb
  clear ho hb HR
  go_wp2
  go_ret
  exact new_done HK.out HO.out HB.out

theorem sorted_perm (xs : List Int) : (xs.mergeSort fun x y => decide (x ≤ y)).length = xs.length := by simp
def srt (xs : List Int) : List Int := xs.mergeSort fun x y => decide (x ≤ y)
theorem sort_any {w : World} {base : Nat} {v : Value} {xs : List Int} (h : OwnN w base v xs) (hl : xs.length ≤ 1000000) (hb : base ≤ w.heap.size) :
    Calls Try.prog 26 #[v] w fun e w' => e = .returned (.tuple #[]) ∧ OwnN w' base v (srt xs) ∧ Chg v.ownBlock base w w' := by
  have hlen : (srt xs).length = xs.length := sorted_perm xs
  have h' := h
  rcases h.2 with ⟨rfl, h0⟩ | ⟨g, cap, cur, rfl, hg, hh, h1, h2, h3, h4⟩
  · obtain rfl : xs = [] := List.eq_nil_of_length_eq_zero h0
    refine (slices_Sort_int_none none 0 w).mono ?_
    rintro e w' ⟨rfl, rfl⟩
    exact ⟨rfl, by simpa [srt] using h', only_refl _ _ _⟩
  · have hlt := heap_lt hh
    refine (slices_Sort_int g 0 cap xs w (holds_of_blockI hh (by rw [Nat.mul_one] at h4; exact h4)) hlt (by omega)).mono ?_
    rintro e w' ⟨rfl, n, os, rfl⟩
    have hgr : w.grownBy (Sort.grow (Sort.putRow (Value.int .i64) (Sort.ahead w n) g 0 (srt xs).toArray) os) (some g) := grownBy_sortedI _
    refine ⟨rfl, ?_, hgr.size, fun b hb hne => hgr.block b hb (fun e => hne (by rw [e]; rfl)), hgr.os, hgr.tape, hgr.output, hgr.size, fun b hb2 => hgr.block b (by omega) (fun e => by injection e with e; omega)⟩
    have := ownsRow_sortedI (w := w) (n := n) (os := os) (ts := srt xs) hlen hg hh h1 h2 h3
    unfold OwnN
    rw [hlen]
    exact this

end Go.Proofs.Ytpdihmlilbccjaa
