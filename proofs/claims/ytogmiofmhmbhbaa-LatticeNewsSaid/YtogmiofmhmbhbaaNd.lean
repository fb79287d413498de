/- The walk of the document's Closed. -/
import Derived.Test.YtogmiofmhmbhbaaNc
namespace Go.Proofs.Ytogmiofmhmbhbaa
open Go.RowKit

def ClosedPost (w : World) (n : Nat) (es : List (Int × Int)) (e : Ending) (w' : World) : Prop :=
  ∃ v, e = .returned v ∧ MatAt w' w'.heap.size n v (fCl n es) ∧ Below w.heap.size w w'

theorem fDg_row (n t i : Nat) (h : i ≠ t) : rowA (fDg (t + 1)) n i = rowA (fDg t) n i := by
  unfold rowA; congr 2; funext j
  have e : fDg (t + 1) i j = fDg t i j := by
    unfold fDg
    rw [Bool.eq_iff_iff]; simp only [decide_eq_true_eq]; omega
  rw [e]
theorem fDg_zero (t j : Nat) : fDg t t j = false := by unfold fDg; simp
theorem fDg_set (n t : Nat) : (rowA (fDg t) n t).setIfInBounds t (.bool true) = rowA (fDg (t + 1)) n t := by
  rw [rowA_upd]
  unfold rowA; congr 2; funext j
  by_cases e : t = j
  · subst e; simp [upd, fDg]
  · have e2 : ¬ j = t := fun h => e h.symm
    simp [upd, fDg, e, e2]
theorem rowsV_succ (G : Nat → Nat) (n t : Nat) : rowsV G n (t + 1) = rowsV G n t ++ [rowV G n t] := by
  unfold rowsV; rw [List.range_succ, List.map_append]; rfl
theorem rowsV_congr (G G' : Nat → Nat) (n t : Nat) (h : ∀ i, i < t → G i = G' i) : rowsV G n t = rowsV G' n t := by
  unfold rowsV
  apply List.map_congr_left
  intro i hi
  unfold rowV
  rw [h i (List.mem_range.1 hi)]
theorem rowsV_get (G : Nat → Nat) (n t i : Nat) (h : i < t) : (rowsV G n t)[i]? = some (rowV G n i) := by simp [rowsV, h]

theorem own_set {w : World} {base : Nat} {e : TypeId} {size n go cap : Nat} {xs : List Value} (h : w.ownsRow base e size (.slice (some ⟨go, 0, none⟩) n cap) n xs) {p : Addr} (hp : go ≠ p.block) (u : Value) : (w.setCell p u).ownsRow base e size (.slice (some ⟨go, 0, none⟩) n cap) n xs := by
  refine ⟨h.1, h.2.imp id ?_⟩
  rintro ⟨g, cap', cur, hv, hb, hg, rest⟩
  refine ⟨g, cap', cur, hv, hb, ?_, rest⟩
  simp only [Value.slice.injEq, Option.some.injEq, Addr.mk.injEq, and_true, true_and] at hv
  rw [← hv.1] at hg ⊢
  rw [heap_setCell_other w p go u hp]
  exact hg
theorem own_block {w : World} {base : Nat} {e : TypeId} {size n go cap : Nat} {xs : List Value} (h : w.ownsRow base e size (.slice (some ⟨go, 0, none⟩) n cap) n xs) : ∃ cur, w.heap[go]? = some (.cells cur e (0, 0)) := by
  rcases h.2 with ⟨h1, _⟩ | ⟨g, cap', cur, hv, _, hg, _⟩
  · simp at h1
  · simp only [Value.slice.injEq, Option.some.injEq, Addr.mk.injEq, and_true, true_and] at hv
    rw [← hv.1] at hg
    exact ⟨cur, hg⟩

theorem row_last {w : World} {base go cap t : Nat} {xs : List Value} {z : Value} (h : w.ownsRow base 59 1 (.slice (some ⟨go, 0, none⟩) (t + 1) cap) (t + 1) (xs ++ [z])) : w.cell? ⟨go, t, none⟩ = some z := by
  have h1 := h.1
  rw [h.cellAt t (by omega)]
  simp at h1
  simp [h1]
theorem row_new {wr w3 : World} {B t : Nat} {v : Value} {xs : List Value} {cs : Array Value} {T T' : TypeId} {o : Array Value} (hown : wr.ownsRow B 59 1 v t xs) (hgr : ((wr.alloc (.cells cs T)).alloc (.cells o T')).grownBy w3 v.ownBlock) : w3.heap[wr.heap.size]? = some (.cells cs T (0, 0)) := by
  refine (hgr.block wr.heap.size (by simp; omega) ?_).trans (heap_alloc2_old wr _ _)
  intro e
  have := (hown.lt wr.heap.size e.symm).2
  omega
theorem row_cell {w : World} {g n t : Nat} {f : Tab} (h : w.heap[g]? = some (.cells (rowA f n t) 4 (0, 0))) (ht : t < n) : w.cell? ⟨g, t, none⟩ = some (.bool (f t t)) := by
  rw [cell_of_row w g t _ _ (0, 0) h, rowA_get f n t t ht]

set_option maxRecDepth 100000 in
set_option maxHeartbeats 4000000 in
theorem closed_any (w : World) (n m c off : Nat) (A : Option Addr) (es : List (Int × Int)) (hE : EdgesIn w w.heap.size A off es) (hm : es.length = m) (hm2 : m ≤ 4611686018427387904) (h1 : 1 ≤ n) (h8 : n ≤ 8) (hes : RightEs n es) :
    Calls Try.prog 35 #[.int .i64 n, .slice A m c] w (ClosedPost w n es) := by
  have HM := Lib.hid hm
  have HES := Lib.hid hes
  clear hm hes
  obtain ⟨B, hB⟩ : ∃ B, B = w.heap.size := ⟨_, rfl⟩
  have HB := Lib.hid hB
  have hR0 : RowsAt (w.alloc (.cells #[] 59)) B n 0 (.slice (some ⟨w.heap.size, 0, none⟩) 0 0) (fDg 0) id :=
    ⟨World.ownsRow_lit (e := 59) (size := 1) w #[] 0 (by rw [hB]; exact Nat.le_refl _) (by unfold maxLen; omega) rfl, fun i hi => absurd hi (by omega), fun i j hi => absurd hi (by omega)⟩
  have hb0 : Below B w (w.alloc (.cells #[] 59)) := by rw [hB]; exact (Below.refl _ _).alloc (Nat.le_refl _) _
  clear hB
  go_enter Try.func35, Try.ntmps35
  go_wp2
  go_loopw [6, 5] (fun i s5 wr => ∃ t : Nat, t ≤ n ∧ i = .int .i64 t ∧ Hid (∃ G, RowsAt wr B n t s5 (fDg t) G) ∧ Below B w wr) (fun i _ _ => n - (intOf i).toNat)
  case atStart => exact ⟨0, Nat.zero_le _, rfl, ⟨_, hR0⟩, hb0⟩
  case round =>
    obtain ⟨t, ht, rfl, hR, hb⟩ := hrel
    by_cases hlt : t < n
    · obtain ⟨G, hown, hin, hdi⟩ := hR.out
      have hmk := make_bools n h8 (fDg t) t (fun j _ => fDg_zero t j) wr
      have HOWN := Lib.hid hown
      have HIN := Lib.hid hin
      have HDI := Lib.hid hdi
      have hBr : B ≤ wr.heap.size := by have := hb.size; have := HB.out; omega
      clear hown hin hdi hR
      go_wp2_with (at_builtin; refine wpList_append_row rfl _ _ rfl B _ t (rowsV G n t) rfl ((HOWN.out.alloc _).alloc _) (wr.heap.size + 1) 1 (.slice (some ⟨wr.heap.size, 0, none⟩) n n) rfl rfl (one_of (by simp)) (by omega) (by simp; omega) ?_; intro v' w3 hown3 hgr; obtain ⟨go, cap, rfl, hbgo, hgo⟩ := hown3.form (by omega); have hco := row_last hown3; have hnw := row_new HOWN.out hgr; have hci := row_cell hnw hlt; have hfi := frozen_of_row w3 wr.heap.size t _ _ hnw; have HCO := Lib.hid hown3; have HNW := Lib.hid hnw; clear hown3 hnw)
      go_roundw
      case rel =>
        have hne : go ≠ wr.heap.size := by
          obtain ⟨cur, hcur⟩ := own_block HCO.out
          intro e
          rw [e, HNW.out] at hcur
          injection hcur with hcur
          injection hcur with _ hcur
          exact absurd hcur (by decide)
        have hb3 : Below B w w3 := ((hb.alloc hBr _).alloc (by simp; omega) _).grown hgr (by simp; omega) (fun g hg => (HOWN.out.lt g hg).1)
        have hold : ∀ i, i < t → G i < wr.heap.size := fun i hi => by
          rcases Nat.lt_or_ge (G i) wr.heap.size with hlt | hge
          · exact hlt
          · have := (HIN.out i hi).2; rw [Array.getElem?_eq_none hge] at this; cases this
        have hG3 : ∀ i, i < t → w3.heap[G i]? = some (.cells (rowA (fDg t) n i) 4 (0, 0)) := fun i hi => by
          have h1 := (HIN.out i hi).2
          refine (hgr.block (G i) (by have := hold i hi; simp; omega) ?_).trans ?_
          · intro e
            have hkind := HOWN.out.2
            rcases hkind with ⟨rfl, _⟩ | ⟨g', cap', cur', rfl, _, hg', _⟩
            · cases e
            · have e2 : some (G i) = some g' := e
              injection e2 with e2
              rw [← e2, h1] at hg'
              injection hg' with hg'
              injection hg' with _ hg'
              exact absurd hg' (by decide)
          · rw [Below.heap_alloc _ _ _ (by have := hold i hi; simp; omega), Below.heap_alloc _ _ _ (hold i hi)]; exact h1
        refine ⟨t + 1, by omega, by go_num, ⟨fun i => if i = t then wr.heap.size else G i, ?_, fun i hi => ?_, fun i j hi hj e => ?_⟩, hb3.setCell (by simp; omega) _⟩
        · have := own_set HCO.out (p := ⟨wr.heap.size, t, none⟩) hne (.bool true)
          rw [rowsV_succ, rowsV_congr (fun i => if i = t then wr.heap.size else G i) G n t (fun i hi => by simp; omega)]
          have e2 : rowV (fun i => if i = t then wr.heap.size else G i) n t = .slice (some ⟨wr.heap.size, 0, none⟩) n n := by simp [rowV]
          rw [e2]
          exact this
        · by_cases e : i = t
          · subst e
            simp only [if_pos]
            refine ⟨hBr, ?_⟩
            rw [← fDg_set]
            exact heap_setCell_same w3 wr.heap.size i _ _ _ HNW.out
          · simp only [if_neg e]
            rw [fDg_row n t i e, heap_setCell_other w3 ⟨wr.heap.size, t, none⟩ (G i) _ (by have := hold i (by omega); simp; omega)]
            exact ⟨(HIN.out i (by omega)).1, hG3 i (by omega)⟩
        · by_cases e1 : i = t <;> by_cases e2 : j = t <;> simp [e1, e2] at e
          · omega
          · have := hold j (by omega); omega
          · have := hold i (by omega); omega
          · exact HDI.out i j (by omega) (by omega) e
      case measure => simp [intOf]; omega
    · obtain rfl : n = t := by omega
      obtain ⟨G, hown, hin, hdi⟩ := hR.out
      obtain ⟨go, cap, rfl, hbgo, hgo⟩ := hown.form (by omega)
      have HDI := Lib.hid hdi
      have HGO : Hid (∀ i, i < n → G i ≠ go) := Lib.hid (fun i hi e => by
        obtain ⟨cur, hcur⟩ := own_block hown
        have := (hin i hi).2
        rw [e, hcur] at this
        injection this with this
        injection this with _ this
        exact absurd this (by decide))
      have HGB : Hid (∀ i, i < n → B ≤ G i) := Lib.hid (fun i hi => (hin i hi).1)
      have hMS : MS wr go n G (fDg n) := ⟨fun i hi => by rw [hown.cellAt i (by omega), rowsV_get G n n i hi], fun i hi => (hin i hi).2⟩
      clear hown hin hdi hR hR0 hb0
      go_wp2
      go_loopw [7] (fun i wq => ∃ k : Nat, k ≤ m ∧ i = .int .i64 k ∧ MS wq go n G (fEd (fDg n) (es.take k)) ∧ Below B w wq) (fun i _ => m - (intOf i).toNat)
      case atStart => exact ⟨0, Nat.zero_le _, rfl, hMS, hb⟩
      case round =>
        obtain ⟨k, hk, rfl, hS, hbk⟩ := hrel
        by_cases hltk : k < m
        · obtain ⟨b, rfl, hbb, ha0, ha1⟩ := (hE.below (w' := wr) (by rw [← HB.out]; exact hbk)) k (by rw [HM.out]; exact hltk)
          have hre := HES.out _ (ge_mem (es := es) (k := k) (by rw [HM.out]; exact hltk))
          obtain ⟨x, hx⟩ := Int.eq_ofNat_of_zero_le hre.1
          obtain ⟨y, hy⟩ := Int.eq_ofNat_of_zero_le hre.2.2.1
          have hxn : x < n := by omega
          have hyn : y < n := by omega
          have HS : Hid (fEd (fDg n) (es.take (k + 1)) = upd (fEd (fDg n) (es.take k)) x y) := Lib.hid (fEd_take _ es k x y (by rw [HM.out]; exact hltk) (by rw [← hx, ← hy]))
          rw [hx] at ha0
          rw [hy] at ha1
          have q1 := hS.outer x hxn
          unfold rowV at q1
          have q2 := hS.cell hxn hyn
          have q3 := hS.frozen hxn y
          obtain ⟨fv, hfv⟩ : ∃ fv, fv = fEd (fDg n) (es.take k) x y := ⟨_, rfl⟩
          rw [← hfv] at q2
          clear hre hx hy hfv
          go_wp2
          go_region
          all_goals
            go_wp2
            go_roundw
            case rel => exact ⟨k + 1, by omega, by go_num, by rw [HS.out]; exact (hS.set_ HDI.out HGO.out hxn).drawn ⟨1, rfl⟩, (hbk.setCell (HGB.out x hxn) _).drew⟩
            case measure => simp [intOf]; omega
        · obtain rfl : m = k := by omega
          rw [List.take_of_length_le (show es.length ≤ m by rw [HM.out]; exact Nat.le_refl _)] at hS
          obtain ⟨F, hF⟩ : ∃ F, F = fEd (fDg n) es := ⟨_, rfl⟩
          rw [← hF] at hS
          have HF : Hid (c1 n n F = fCl n es) := by rw [hF]; exact rfl
          clear hF hMS
          go_wp2
          go_loopw [8] (fun i wq => ∃ k : Nat, k ≤ n ∧ i = .int .i64 k ∧ MS wq go n G (c1 n k F) ∧ Below B w wq) (fun i _ => n - (intOf i).toNat)
          case atStart => exact ⟨0, Nat.zero_le _, rfl, hS, hbk⟩
          case round =>
            obtain ⟨k, hk, rfl, hS, hbk⟩ := hrel
            by_cases hltk : k < n
            · go_wp2
              go_loopw [9] (fun i wq => ∃ a : Nat, a ≤ n ∧ i = .int .i64 a ∧ MS wq go n G (c2 n k a (c1 n k F)) ∧ Below B w wq) (fun i _ => n - (intOf i).toNat)
              case atStart => exact ⟨0, Nat.zero_le _, rfl, hS, hbk⟩
              case round =>
                obtain ⟨a, ha, rfl, hSa, hba⟩ := hrel
                by_cases hlta : a < n
                · go_wp2
                  go_loopw [10] (fun i wq => ∃ d : Nat, d ≤ n ∧ i = .int .i64 d ∧ MS wq go n G (c3 k a d (c2 n k a (c1 n k F))) ∧ Below B w wq) (fun i _ => n - (intOf i).toNat)
                  case atStart => exact ⟨0, Nat.zero_le _, rfl, hSa, hba⟩
                  case round =>
                    obtain ⟨d, hd, rfl, hSd, hbd⟩ := hrel
                    by_cases hltd : d < n
                    · have HS : Hid (c3 k a (d + 1) (c2 n k a (c1 n k F)) = if (c3 k a d (c2 n k a (c1 n k F)) a k && c3 k a d (c2 n k a (c1 n k F)) k d) = true then upd (c3 k a d (c2 n k a (c1 n k F))) a d else c3 k a d (c2 n k a (c1 n k F))) := rfl
                      obtain ⟨f, hf⟩ : ∃ f, f = c3 k a d (c2 n k a (c1 n k F)) := ⟨_, rfl⟩
                      rw [← hf] at hSd HS
                      have q1 := hSd.outer a hlta
                      have q2 := hSd.outer k hltk
                      unfold rowV at q1 q2
                      have q3 := hSd.cell hlta hltk
                      have q4 := hSd.cell hltk hltd
                      have q5 := hSd.cell hlta hltd
                      have q6 := hSd.frozen hlta d
                      obtain ⟨u, hu⟩ : ∃ u, u = f a k := ⟨_, rfl⟩
                      obtain ⟨v, hv⟩ : ∃ v, v = f k d := ⟨_, rfl⟩
                      obtain ⟨x, hx⟩ : ∃ x, x = f a d := ⟨_, rfl⟩
                      have HS2 : Hid (c3 k a (d + 1) (c2 n k a (c1 n k F)) = if (u && v) = true then upd f a d else f) := Lib.hid (by rw [hu, hv]; exact HS.out)
                      rw [← hx] at q5
                      cases hcu : f a k
                      · have HT : Hid (c3 k a (d + 1) (c2 n k a (c1 n k F)) = f) := Lib.hid (HS2.out.trans (by rw [hu, hcu]; rfl))
                        rw [hcu] at q3
                        clear hf hu hv hx hcu q4
                        go_wp2
                        go_roundw
                        case rel => exact ⟨d + 1, by omega, by go_num, by rw [HT.out]; exact hSd, hbd⟩
                        case measure => simp [intOf]; omega
                      · rw [hcu] at q3
                        cases hcv : f k d
                        · have HT : Hid (c3 k a (d + 1) (c2 n k a (c1 n k F)) = f) := Lib.hid (HS2.out.trans (by rw [hu, hcu, hv, hcv]; rfl))
                          rw [hcv] at q4
                          clear hf hu hv hx hcu hcv
                          go_wp2
                          go_roundw
                          case rel => exact ⟨d + 1, by omega, by go_num, by rw [HT.out]; exact hSd, hbd⟩
                          case measure => simp [intOf]; omega
                        · have HT : Hid (c3 k a (d + 1) (c2 n k a (c1 n k F)) = upd f a d) := Lib.hid (HS2.out.trans (by rw [hu, hcu, hv, hcv]; rfl))
                          rw [hcv] at q4
                          clear hf hu hv hx hcu hcv
                          go_wp2
                          go_roundw
                          case rel => exact ⟨d + 1, by omega, by go_num, by rw [HT.out]; exact hSd.set_ HDI.out HGO.out hlta, hbd.setCell (HGB.out a hlta) _⟩
                          case measure => simp [intOf]; omega
                    · obtain rfl : n = d := by omega
                      go_wp2
                      go_roundw
                      case rel => exact ⟨a + 1, by omega, by go_num, hSd, hbd⟩
                      case measure => simp [intOf]; omega
                · obtain rfl : n = a := by omega
                  go_wp2
                  go_roundw
                  case rel => exact ⟨k + 1, by omega, by go_num, hSa, hba⟩
                  case measure => simp [intOf]; omega
            · obtain rfl : n = k := by omega
              rw [HF.out] at hS
              go_wp2
              go_ret
              exact ⟨_, rfl, ⟨go, cap, G, fun _ => n, rfl, block_lt_of_cell (hS.outer 0 (by omega)), fun i hi => ⟨block_lt_of_cell (hS.cell hi (show 0 < n by omega)), hS.outer i hi, fun j hj => hS.cell hi hj⟩⟩, by rw [← HB.out]; exact hbk⟩

end Go.Proofs.Ytogmiofmhmbhbaa
