/- Vg -/
import Derived.Test.YtihjdfbdpcghdaaDoorZb5
import Derived.IntWalk
set_option linter.unusedVariables false
namespace Go.Proofs.YtihjdfbdpcghdaaDoor
open Go.RowKit
theorem strOf_toList (t : List UInt8) : (strOf t).toList = t := by
  rw [ByteArray.toList_eq]; rfl
theorem cut_star (t : List UInt8) (w : World) : Calls Tryd.prog 39 #[.string (strOf t), .string ⟨#[42]⟩] w fun e w' =>
    e = .returned (.tuple #[.string (strOf (if t.head? = some 42 then t.tail else t)), .bool (decide (t.head? = some 42))]) ∧ w = w' := by
  refine (strings_CutPrefix (strOf t) ⟨#[42]⟩ w).mono ?_
  rintro e w' ⟨rfl, rfl⟩
  refine ⟨?_, rfl⟩
  have h1 : Lib.hasPrefix (strOf t).data.toList (⟨#[42]⟩ : ByteArray).data.toList = decide (t.head? = some 42) := by
    rw [strOf_data]
    show ([42] : List UInt8).isPrefixOf t = _
    cases t with
    | nil => rfl
    | cons c r =>
      show ((42 : UInt8) == c && List.isPrefixOf [] r) = decide (some c = some 42)
      rw [List.isPrefixOf_nil_left, Bool.and_true, Bool.eq_iff_iff, beq_iff_eq, decide_eq_true_eq, Option.some.injEq]
      exact eq_comm
  have h2 : (⟨(Lib.trimPrefix (strOf t).data.toList (⟨#[42]⟩ : ByteArray).data.toList).toArray⟩ : ByteArray) = strOf (if t.head? = some 42 then t.tail else t) := by
    unfold Lib.trimPrefix
    rw [h1, strOf_data]
    by_cases h : t.head? = some 42
    · simp only [h, decide_true, if_true]
      show strOf (t.drop 1) = _
      rw [List.drop_one]
    · simp only [h, decide_false, if_false, Bool.false_eq_true]
      rfl
  rw [h1, h2]
def strCells (ts : List (List UInt8)) : Array Value := (ts.map fun t => Value.string (strOf t)).toArray
theorem strs_new (w : World) (P : Nat → Prop) (ts : List (List UInt8)) (hl : ∀ t ∈ ts, t.length ≤ 40000) (hn : ts.length ≤ 9223372036854775807) (hP : ¬ P w.heap.size) :
    StrsAt (w.alloc (.cells (strCells ts) 9)) P (.slice (some ⟨w.heap.size, 0, none⟩) ts.length ts.length) ts := by
  refine ⟨_, _, rfl, Nat.le_refl _, hn, fun k hk => ⟨w.heap.size, 0, rfl, hP, hl _ (List.getElem_mem _), ?_⟩⟩
  rw [Nat.zero_add, cell_of_row _ w.heap.size k _ _ (0, 0) (heap_alloc_new w _)]
  simp [strCells, List.getElem?_eq_getElem hk]
theorem PenPost.from_ {w w1 w' : World} {Bc Ba base : Nat} {v v1 : Value} {T1 : List (List UInt8)} {R : Ts} {e : Ending} (h : Went w Bc Ba base v w1 v1 T1) (hp : PenPost w1 Bc Ba base v1 R e w') : PenPost w Bc Ba base v R e w' := by
  cases R with
  | none => exact ⟨hp.1, h.fell hp.2⟩
  | some T => obtain ⟨he, v', hw⟩ := hp; exact ⟨he, v', h.trans hw⟩
theorem put_new {w w1 : World} {Bc Ba base : Nat} {v v1 : Value} {T1 : List (List UInt8)} (h : Went w Bc Ba base v w1 v1 T1) (hbase : base ≤ w.heap.size) (ts : List (List UInt8)) (hl : ∀ t ∈ ts, t.length ≤ 40000) (hn : ts.length ≤ 1000) :
    Calls Tryd.prog 26 #[.slice (some ⟨w1.heap.size, 0, none⟩) ts.length ts.length, .pointer (some ⟨Bc, 0, none⟩), .pointer (some ⟨Ba, 0, none⟩)] (w1.alloc (.cells (strCells ts) 9)) (PenPost w Bc Ba base v (adv T1 (some ts))) := by
  have ha := h.alloc (.cells (strCells ts) 9)
  refine (put_any ha.1 (Nat.le_trans hbase ha.2.2.size) ts _ (strs_new w1 _ ts hl (by omega) (fun hm => ?_))).mono fun e w' hp => PenPost.from_ ha hp
  have := (h.1.mine hm).2
  omega
theorem types_any {w : World} {Bc Ba base : Nat} {v : Value} {T : List (List UInt8)} (hp : PenAt w Bc Ba base v T) (hbase : base ≤ w.heap.size) (t : List UInt8) (ht : t.length ≤ 40000) :
    Calls Tryd.prog 21 #[penV Bc Ba, .string (strOf t)] w (PenPost w Bc Ba base v (adv T (tyT t))) := by
  unfold penV
  by_cases h0 : t.head? = some 42
  · have hc := fun w => cut_star t w
    rw [if_pos h0] at hc
    simp only [h0, decide_true] at hc
    have HT : Hid (tyT t = if nameB t.tail = true then some [[42], t.tail] else none) := Lib.hid (by unfold tyT; rw [if_pos h0])
    have hl : t.tail.length ≤ 40000 := by rw [List.length_tail]; omega
    obtain ⟨s, hs⟩ : ∃ s, s = t.tail := ⟨_, rfl⟩
    rw [← hs] at hc HT hl
    clear hs h0
    have HP := Lib.hid hp
    have HB := Lib.hid hbase
    have HL := Lib.hid hl
    clear hp hbase hl
    go_enter Tryd.func21, Tryd.ntmps21
    go_wp2_with fail
    refine (hc _).mono ?_
    rintro e w1 ⟨rfl, rfl⟩
    clear hc
    go_wp2_with fail
    have hblk : (w.alloc (.cells #[.string (strOf s)] 9)).heap[w.heap.size]? = some (.cells #[.string (strOf s)] 9 (0, 0)) := heap_alloc_new _ _
    have hcl : (w.alloc (.cells #[.string (strOf s)] 9)).cell? ⟨w.heap.size, 0, none⟩ = some (.string (strOf s)) := by rw [cell_of_row _ w.heap.size 0 _ _ (0, 0) hblk]; rfl
    have hfr : (w.alloc (.cells #[.string (strOf s)] 9)).frozen? ⟨w.heap.size, 0, none⟩ = false := frozen_of_row _ w.heap.size 0 _ _ hblk
    have hsz : (strOf s).size ≤ 40000 := by rw [Lib.size_eq, strOf_data]; exact HL.out
    by_cases hn : nameB s = true
    · refine (takeName_yes ⟨w.heap.size, 0, none⟩ (strOf s) _ hcl hfr hsz hn).mono ?_
      rintro e w1 ⟨rfl, w2, hb2, rfl⟩
      have hw2 : Went w Bc Ba base v (w2.setCell ⟨w.heap.size, 0, none⟩ (.string ⟨#[]⟩)) v T := (((Went.refl HP.out).alloc _).below hb2).setCell _ _ (Nat.le_refl _) (fun hm => by have := (HP.out.mine hm).2; simp at this)
      have hput := put_new hw2 HB.out [[42], s] (by intro t ht; simp at ht; have := HL.out; rcases ht with rfl | rfl <;> simp; omega) (by simp)
      clear hcl hfr hblk hw2
      obtain ⟨w3, hw3⟩ : ∃ w3, w3 = w2.setCell ⟨w.heap.size, 0, none⟩ (.string ⟨#[]⟩) := ⟨_, rfl⟩
      rw [← hw3] at hput ⊢
      clear hw3
      go_wp2_with fail
      refine hput.mono ?_
      rintro e w4 hpost
      have HEQ : Hid (tyT t = some [[42], s]) := Lib.hid (by rw [HT.out, if_pos hn])
      cases hR : adv T (some [[42], s]) with
      | none =>
        rw [hR] at hpost
        obtain ⟨rfl, hch⟩ := hpost
        unfold boom
        go_wp2
        refine ⟨rfl, ?_⟩
        rw [HEQ.out, hR]
        exact ⟨rfl, hch⟩
      | some U =>
        rw [hR] at hpost
        obtain ⟨rfl, u, hwent⟩ := hpost
        have HW := Lib.hid hwent
        clear hwent
        go_wp2
        go_end0
        rw [HEQ.out, hR]
        exact ⟨rfl, u, HW.out⟩
    · have hn' : nameB s = false := by simpa using hn
      refine (takeName_no ⟨w.heap.size, 0, none⟩ (strOf s) _ hcl hsz hn').mono ?_
      rintro e w1 ⟨rfl, hb⟩
      unfold boom
      go_wp2
      refine ⟨rfl, ?_⟩
      rw [HT.out, if_neg hn]
      exact ⟨rfl, (Chg.refl _ _).alloc _ |>.trans (Chg.of_below (P := fun _ => False) hb) (fun _ _ e => e.elim)⟩
  · have hc := fun w => cut_star t w
    rw [if_neg h0] at hc
    simp only [h0, decide_false] at hc
    have HP := Lib.hid hp
    have HB := Lib.hid hbase
    have HL := Lib.hid ht
    have hst := strOf_toList t
    clear hp hbase ht
    by_cases a1 : t = [91, 93, 105, 110, 116]
    · have HT : Hid (tyT t = some [[91], [93], [105, 110, 116]]) := Lib.hid (by unfold tyT; rw [if_neg h0, if_pos a1])
      have e1 : ((strOf t).toList == [91, 93, 105, 110, 116]) = true := by rw [hst, a1]; rfl
      clear a1 hst h0
      go_enter Tryd.func21, Tryd.ntmps21
      go_wp2_with fail
      refine (hc _).mono ?_
      rintro e w1 ⟨rfl, rfl⟩
      clear hc
      go_wp2_with fail
      have hput := put_new ((Went.refl HP.out).alloc (.cells #[.string (strOf t)] 9)) HB.out [[91], [93], [105, 110, 116]] (by intro u hu; have := HL.out; simp at hu; first | (rcases hu with rfl | rfl | rfl <;> decide) | (rw [hu]; exact this)) (by simp)
      obtain ⟨w3, hw3⟩ : ∃ w3, w3 = w.alloc (.cells #[.string (strOf t)] 9) := ⟨_, rfl⟩
      have hs3 : w.heap.size + 1 = w3.heap.size := by rw [hw3]; simp
      rw [← hw3] at hput ⊢
      rw [hs3]
      clear hw3 hs3
      refine hput.mono ?_
      rintro e w9 hpost
      cases hR : adv T (some [[91], [93], [105, 110, 116]]) with
      | none =>
        rw [hR] at hpost
        obtain ⟨rfl, hch⟩ := hpost
        unfold boom
        go_wp2
        refine ⟨rfl, ?_⟩
        rw [HT.out, hR]
        exact ⟨rfl, hch⟩
      | some U =>
        rw [hR] at hpost
        obtain ⟨rfl, u, hwent⟩ := hpost
        have HWF := Lib.hid hwent
        clear hwent
        go_wp2
        go_end0
        rw [HT.out, hR]
        exact ⟨rfl, u, HWF.out⟩
    have e1 : ((strOf t).toList == [91, 93, 105, 110, 116]) = false := by rw [hst]; simpa using a1
    by_cases a2 : t = [105, 110, 116]
    · have HT : Hid (tyT t = some [t]) := Lib.hid (by unfold tyT; rw [if_neg h0, if_neg a1, if_pos (.inl a2)])
      have e2 : (strOf t).toList = [105, 110, 116] := by rw [hst, a2]
      clear a1 a2 hst h0
      go_enter Tryd.func21, Tryd.ntmps21
      go_wp2_with fail
      refine (hc _).mono ?_
      rintro e w1 ⟨rfl, rfl⟩
      clear hc
      go_wp2_with fail
      refine (must_yes _).mono ?_
      rintro e w1 ⟨rfl, rfl⟩
      go_wp2_with fail
      have hput := put_new ((Went.refl HP.out).alloc (.cells #[.string (strOf t)] 9)) HB.out [t] (by intro u hu; have := HL.out; simp at hu; first | (rcases hu with rfl | rfl | rfl <;> decide) | (rw [hu]; exact this)) (by simp)
      obtain ⟨w3, hw3⟩ : ∃ w3, w3 = w.alloc (.cells #[.string (strOf t)] 9) := ⟨_, rfl⟩
      have hs3 : w.heap.size + 1 = w3.heap.size := by rw [hw3]; simp
      rw [← hw3] at hput ⊢
      rw [hs3]
      clear hw3 hs3
      refine hput.mono ?_
      rintro e w9 hpost
      cases hR : adv T (some [t]) with
      | none =>
        rw [hR] at hpost
        obtain ⟨rfl, hch⟩ := hpost
        unfold boom
        go_wp2
        refine ⟨rfl, ?_⟩
        rw [HT.out, hR]
        exact ⟨rfl, hch⟩
      | some U =>
        rw [hR] at hpost
        obtain ⟨rfl, u, hwent⟩ := hpost
        have HWF := Lib.hid hwent
        clear hwent
        go_wp2
        go_end0
        rw [HT.out, hR]
        exact ⟨rfl, u, HWF.out⟩
    have e2 : ¬ (strOf t).toList = [105, 110, 116] := by rw [hst]; exact a2
    by_cases a3 : t = [98, 111, 111, 108]
    · have HT : Hid (tyT t = some [t]) := Lib.hid (by unfold tyT; rw [if_neg h0, if_neg a1, if_pos (.inr a3)])
      have e3 : ((strOf t).toList == [105, 110, 116] || (strOf t).toList == [98, 111, 111, 108]) = true := by rw [hst, a3]; rfl
      clear a1 a2 a3 hst h0
      go_enter Tryd.func21, Tryd.ntmps21
      go_wp2_with fail
      refine (hc _).mono ?_
      rintro e w1 ⟨rfl, rfl⟩
      clear hc
      go_wp2_with fail
      refine (must_yes _).mono ?_
      rintro e w1 ⟨rfl, rfl⟩
      go_wp2_with fail
      have hput := put_new ((Went.refl HP.out).alloc (.cells #[.string (strOf t)] 9)) HB.out [t] (by intro u hu; have := HL.out; simp at hu; first | (rcases hu with rfl | rfl | rfl <;> decide) | (rw [hu]; exact this)) (by simp)
      obtain ⟨w3, hw3⟩ : ∃ w3, w3 = w.alloc (.cells #[.string (strOf t)] 9) := ⟨_, rfl⟩
      have hs3 : w.heap.size + 1 = w3.heap.size := by rw [hw3]; simp
      rw [← hw3] at hput ⊢
      rw [hs3]
      clear hw3 hs3
      refine hput.mono ?_
      rintro e w9 hpost
      cases hR : adv T (some [t]) with
      | none =>
        rw [hR] at hpost
        obtain ⟨rfl, hch⟩ := hpost
        unfold boom
        go_wp2
        refine ⟨rfl, ?_⟩
        rw [HT.out, hR]
        exact ⟨rfl, hch⟩
      | some U =>
        rw [hR] at hpost
        obtain ⟨rfl, u, hwent⟩ := hpost
        have HWF := Lib.hid hwent
        clear hwent
        go_wp2
        go_end0
        rw [HT.out, hR]
        exact ⟨rfl, u, HWF.out⟩
    have HT : Hid (tyT t = none) := Lib.hid (by unfold tyT; rw [if_neg h0, if_neg a1, if_neg (fun h => h.elim a2 a3)])
    have e3 : ((strOf t).toList == [105, 110, 116] || (strOf t).toList == [98, 111, 111, 108]) = false := by
      rw [hst, Bool.or_eq_false_iff]; exact ⟨by simpa using a2, by simpa using a3⟩
    clear a1 a2 a3 hst h0
    go_enter Tryd.func21, Tryd.ntmps21
    go_wp2_with fail
    refine (hc _).mono ?_
    rintro e w1 ⟨rfl, rfl⟩
    clear hc
    go_wp2_with fail
    refine (must_no _).mono ?_
    rintro e w1 ⟨rfl, rfl⟩
    unfold boom
    go_wp2
    refine ⟨rfl, ?_⟩
    rw [HT.out]
    exact ⟨rfl, (Chg.refl _ _).alloc _⟩
end Go.Proofs.YtihjdfbdpcghdaaDoor
