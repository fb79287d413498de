/- The document's own table: New, Holder, Held. -/
import Derived.Test.YtpdihmlilbccjaaJlh
set_option linter.unusedVariables false
set_option linter.unusedSimpArgs false
namespace Go.Proofs.Ytpdihmlilbccjaa
open Go.RowKit

/-- the box of a table, new -/
theorem box_new (w : World) (v : Value) : (w.alloc (.cells #[v] 28)).heap[w.heap.size]? = some (.cells #[v] 28 (0, 0)) ∧ (w.alloc (.cells #[v] 28)).cell? ⟨w.heap.size, 0, none⟩ = some v ∧ Below w.heap.size w (w.alloc (.cells #[v] 28)) := by
  have h := heap_alloc_new w (.cells #[v] 28)
  exact ⟨h, by rw [cell_of_row _ _ 0 _ _ _ h]; rfl, (Below.refl _ _).alloc (Nat.le_refl _) _⟩
def RHold (w : World) (hs : List Int) (l : Int) (e : Ending) (w' : World) : Prop := e = .returned (.int .i64 (holdM hs l)) ∧ Below w.heap.size w w'
set_option maxRecDepth 100000 in
theorem rholder_any {w : World} {v : Value} {hs : List Int} (h : LieN w v hs) (h8 : hs.length ≤ 8) (l : Int) : Calls Try.prog 16 #[.agg #[v], .int .i64 l] w (RHold w hs l) := by
  obtain ⟨A, c, rfl, h1, h2⟩ := h.form
  unfold RHold holdM
  obtain ⟨r0, r1, r2⟩ := box_new w (.slice A hs.length c)
  have HB := Lib.hid r2
  have hyl := heap_lt r0
  have HL := Lib.hid (h.below r2)
  clear h r0 r2
  by_cases hl : 0 ≤ l ∧ l < hs.length
  · rw [if_pos hl]
    obtain ⟨k, rfl⟩ : ∃ k : Nat, l = k := ⟨l.toNat, by omega⟩
    have hk : k < hs.length := by omega
    obtain ⟨b, off, rfl, hat⟩ := HL.out.at hk
    have hbl := World.block_lt_of_cell? _ _ hat
    rw [Int.toNat_natCast, List.getD_eq_getElem?_getD, List.getElem?_eq_getElem hk, Option.getD_some]
    obtain ⟨x, hx⟩ : ∃ x, x = hs[k] := ⟨_, rfl⟩
    rw [← hx] at hat ⊢
    obtain ⟨n, hn⟩ : ∃ n, n = hs.length := ⟨_, rfl⟩
    rw [← hn] at hk h8 h1 hat r1 HB HL ⊢
    clear hx hl hn
    go_enter Try.func16, Try.ntmps16
    go_wp2
    go_ret
    exact ⟨rfl, HB.out⟩
  · rw [if_neg hl]
    obtain ⟨n, hn⟩ : ∃ n, n = hs.length := ⟨_, rfl⟩
    rw [← hn] at h8 h1 r1 HB HL hl ⊢
    clear hn
    by_cases h0 : l < 0
    · clear hl
      go_enter Try.func16, Try.ntmps16
      go_wp2
      go_ret
      exact ⟨rfl, HB.out⟩
    · have h3 : (n : Int) ≤ l := by omega
      clear hl
      go_enter Try.func16, Try.ntmps16
      go_wp2
      go_ret
      exact ⟨rfl, HB.out⟩

def heldK (hs : List Int) (t : Int) (k : Nat) : List Int := if t < 0 then [] else heldFrom t (hs.take k) 0
theorem heldK_zero (hs : List Int) (t : Int) : heldK hs t 0 = [] := by unfold heldK; split <;> rfl
theorem heldK_all (hs : List Int) (t : Int) : heldK hs t hs.length = heldM hs t := by unfold heldK heldM; rw [List.take_of_length_le (Nat.le_refl _)]
theorem heldK_len (hs : List Int) (t : Int) (k : Nat) : (heldK hs t k).length ≤ hs.length := by
  unfold heldK
  split
  · simp
  · have := held_len t (hs.take k) 0
    simp at this
    omega
theorem heldK_yes {hs : List Int} {t : Int} {k : Nat} (hk : k < hs.length) (h0 : 0 ≤ t) (hx : hs[k] = t) : heldK hs t (k + 1) = heldK hs t k ++ [((k : Nat) : Int)] := by
  unfold heldK
  rw [if_neg (by omega), if_neg (by omega), List.take_succ_eq_append_getElem hk, held_app, if_pos hx, List.length_take, Nat.zero_add, Nat.min_eq_left (by omega)]
theorem heldK_no {hs : List Int} {t : Int} {k : Nat} (hk : k < hs.length) (h0 : ¬ (0 ≤ t ∧ hs[k] = t)) : heldK hs t (k + 1) = heldK hs t k := by
  unfold heldK
  split
  · rfl
  · rw [List.take_succ_eq_append_getElem hk, held_app, if_neg (fun hq => h0 ⟨by omega, hq⟩), List.append_nil]
set_option maxRecDepth 100000 in
set_option maxHeartbeats 2000000 in
theorem rheld_any {w : World} {v : Value} {hs : List Int} (h : LieN w v hs) (h8 : hs.length ≤ 8) (t : Int) : Calls Try.prog 19 #[.agg #[v], .int .i64 t] w (CopyN w (heldM hs t)) := by
  obtain ⟨A, c, rfl, h1, h2⟩ := h.form
  obtain ⟨r0, r1, r2⟩ := box_new w (.slice A hs.length c)
  obtain ⟨V, hV⟩ : ∃ V : World, V = (w.alloc (.cells #[.slice A hs.length c] 28)).alloc (.cells #[] 3) := ⟨_, rfl⟩
  have hV1 : Below (w.heap.size + 1) (w.alloc (.cells #[.slice A hs.length c] 28)) V := by rw [hV]; exact (Below.refl _ _).alloc (by simp) _
  have hV2 : Below w.heap.size w V := r2.trans (hV1.mono (by omega))
  have HO0 := Lib.hid (show OwnN V (w.heap.size + 1) (.slice (some ⟨w.heap.size + 1, 0, none⟩) 0 0) [] from by
    rw [hV]
    have := OwnN.lit (w.alloc (.cells #[.slice A hs.length c] 28)) (w.heap.size + 1) (by simp)
    rw [World.size_alloc] at this
    exact this)
  have HBX := Lib.hid (show V.cell? ⟨w.heap.size, 0, none⟩ = some (.slice A hs.length c) from (hV1.cell (p := ⟨w.heap.size, 0, none⟩) (by show w.heap.size < _; omega)).trans r1)
  have HVS := Lib.hid (show w.heap.size < V.heap.size from by rw [hV]; simp; omega)
  have HB := Lib.hid hV2
  have HLL := Lib.hid (fun (wx : World) (hb : Below w.heap.size w wx) => h.below hb)
  have HVV := Lib.hid hV
  clear h r0 r1 r2 hV1 hV2 hV
  obtain ⟨n, hn⟩ : ∃ n, n = hs.length := ⟨_, rfl⟩
  rw [← hn] at h8 h1 HBX HLL HVV ⊢
  have HN := Lib.hid hn
  clear hn
  go_enter Try.func19, Try.ntmps19
  go_wp2_with fail
  rw [← HVV.out]
  obtain ⟨y, hy⟩ : ∃ y, y = w.heap.size := ⟨_, rfl⟩
  rw [← hy] at HBX HVS HO0 HB HLL ⊢
  have HY := Lib.hid hy
  clear hy HVV
  go_loopw [5, 6] (fun va vi wr => ∃ k : Nat, k ≤ n ∧ vi = .int .i64 (k : Nat) ∧ Hid (OwnN wr (y + 1) va (heldK hs t k)) ∧ Hid (Below V.heap.size V wr ∨ Below (y + 1) V wr)) (fun _ vi _ => n - (intOf vi).toNat)
  case atStart => exact ⟨0, Nat.zero_le _, rfl, Lib.hid (by rw [heldK_zero]; exact HO0.out), Lib.hid (.inr (Below.refl _ _))⟩
  case round =>
    obtain ⟨wo, rfl⟩ : ∃ wo : World, wo = wr := ⟨_, rfl⟩
    obtain ⟨k, hk, rfl, HO, HC⟩ := hrel
    have HC : Hid (Below (y + 1) V wo) := Lib.hid (HC.out.elim (fun h => h.mono HVS.out) id)
    have hyc := (HC.out.cell (p := ⟨y, 0, none⟩) (Nat.lt_succ_self y)).trans HBX.out
    have hyl : y < wo.heap.size := Nat.lt_of_lt_of_le HVS.out HC.out.size
    have HLW := HLL.out wo (HB.out.trans (HC.out.mono (Nat.le_succ y)))
    by_cases hlk : k < n
    · have hke : k < hs.length := by rw [← HN.out]; exact hlk
      obtain ⟨b, off, rfl, hat⟩ := HLW.at hke
      have hbl := World.block_lt_of_cell? _ _ hat
      have HYES := Lib.hid (fun h0 hx => heldK_yes (t := t) hke h0 hx)
      have HNOT := Lib.hid (fun h0 => heldK_no (t := t) hke h0)
      obtain ⟨x, hx⟩ : ∃ x, x = hs[k] := ⟨_, rfl⟩
      rw [← hx] at hat
      have HLEN : Hid ((heldK hs t k).length ≤ 1000000) := Lib.hid (by have := heldK_len hs t k; have := HN.out; omega)
      have hsz : y + 1 ≤ wo.heap.size := hyl
      have HX := Lib.hid hx
      clear HLW hx
      by_cases h0 : 0 ≤ t
      · by_cases hxt : x = t
        · have HE := Lib.hid (HYES.out h0 (by rw [← HX.out]; exact hxt))
          rw [hxt] at hat
          clear HYES HNOT HX hxt
          go_wp2_with (first | (at_builtin; go_loud (refine wpList_app rfl _ _ rfl (y + 1) _ (heldK hs t k) rfl (w := wo) (k : Nat) rfl HO.out HLEN.out 1 rfl hsz ?_; go_loud (intro v4 w4 o4 c4 n4))))
          go_roundw
          case rel => exact ⟨k + 1, by omega, by go_num, Lib.hid (by rw [HE.out]; exact o4), Lib.hid (.inr (HC.out.trans c4.bel))⟩
          case measure => simp [intOf]; omega
        · have HE := Lib.hid (HNOT.out (fun hq => hxt (by rw [HX.out]; exact hq.2)))
          clear HYES HNOT HX
          go_wp2_with fail
          go_roundw
          case rel => exact ⟨k + 1, by omega, by go_num, Lib.hid (by rw [HE.out]; exact HO.out), Lib.hid (.inr HC.out)⟩
          case measure => simp [intOf]; omega
      · have HE := Lib.hid (HNOT.out (fun hq => h0 hq.1))
        have hd0 : decide (0 ≤ t) = false := decide_eq_false h0
        clear HYES HNOT HX
        go_wp2_with fail
        go_roundw
        case rel => exact ⟨k + 1, by omega, by go_num, Lib.hid (by rw [HE.out]; exact HO.out), Lib.hid (.inr HC.out)⟩
        case measure => simp [intOf]; omega
    · obtain rfl : n = k := by omega
      have HE : Hid (heldK hs t n = heldM hs t) := Lib.hid (by rw [HN.out, heldK_all])
      obtain ⟨A4, c4, rfl⟩ := HO.out.form
      go_wp2
      go_ret
      exact ⟨_, rfl, by rw [← HE.out, ← HY.out]; exact HO.out.mono (Nat.le_succ y), by rw [← HY.out]; exact HB.out.trans (HC.out.mono (Nat.le_succ y))⟩

def RNewLt (w : World) (n : Int) (e : Ending) (w' : World) : Prop := ∃ v, e = .returned (.agg #[v]) ∧ OwnN w' w.heap.size v (newM n) ∧ Below w.heap.size w w'
theorem one_fin {w0 w : World} {z B : Nat} {o0 : Value} {t : TypeId} (hrow : w.heap[z]? = some (.cells #[o0] t (0, 0))) (hz : B ≤ z) (hb : Below B w0 w) (u0 : Value) {W : World}
    (hW : w.setCell ⟨z, 0, none⟩ u0 = W) : Below B w0 W ∧ W.heap[z]? = some (.cells #[u0] t (0, 0)) ∧ W.cell? ⟨z, 0, none⟩ = some u0 ∧ (∀ b, b ≠ z → W.heap[b]? = w.heap[b]?) ∧ W.heap.size = w.heap.size := by
  subst hW
  have h1 : (w.setCell ⟨z, 0, none⟩ u0).heap[z]? = some (.cells #[u0] t (0, 0)) := by
    rw [setCell_eq_setRow w z 0 _ _ _ u0 hrow, setRow_heap w z _ _ _ _ hrow]
    rfl
  refine ⟨hb.trans ⟨rfl, rfl, rfl, by simp, fun b hb2 => Below.heap_setCell w _ u0 b (by show b ≠ z; omega)⟩, h1, ?_, fun b hb2 => Below.heap_setCell w _ u0 b hb2, by simp⟩
  rw [cell_of_row _ z 0 _ _ _ h1]
  rfl
set_option maxRecDepth 100000 in
set_option maxHeartbeats 2000000 in
theorem rnew_any (w : World) (n : Int) (hn : In64 n) : Calls Try.prog 9 #[.int .i64 n] w (RNewLt w n) := by
  unfold In64 at hn
  obtain ⟨V, hV⟩ : ∃ V : World, V = (w.alloc (.cells #[.slice none 0 0] 28)).alloc (.cells #[.slice none 0 0] 28) := ⟨_, rfl⟩
  obtain ⟨r0, r1, r2⟩ := box_new w (.slice none 0 0)
  have hV1 : Below (w.heap.size + 1) (w.alloc (.cells #[.slice none 0 0] 28)) V := by rw [hV]; exact (Below.refl _ _).alloc (by simp) _
  have HR0 := Lib.hid ((hV1.block w.heap.size (by omega)).trans r0)
  have HR1 := Lib.hid (show V.heap[w.heap.size + 1]? = some (.cells #[.slice none 0 0] 28 (0, 0)) from by
    rw [hV]
    have := heap_alloc_new (w.alloc (.cells #[.slice none 0 0] 28)) (.cells #[.slice none 0 0] 28)
    rw [World.size_alloc] at this
    exact this)
  have HB := Lib.hid (r2.trans (hV1.mono (by omega)))
  have HVS := Lib.hid (show V.heap.size = w.heap.size + 2 from by rw [hV]; simp)
  obtain ⟨m, hm⟩ : ∃ m : Nat, m = (min (max n 0) 8).toNat := ⟨_, rfl⟩
  have hm8 : m ≤ 8 := by omega
  have HNM : Hid (newM n = List.replicate m (-1)) := Lib.hid (by unfold newM; rw [hm])
  have HM := Lib.hid (show ∀ k : Nat, k < m → (k : Int) < n ∧ k < 8 from fun k hk => by omega)
  have HM2 := Lib.hid (show ¬ ((m : Int) < n ∧ m < 8) from by omega)
  have HVV := Lib.hid hV
  clear r0 r1 r2 hV1 hV hm
  go_enter Try.func9, Try.ntmps9
  go_wp2_with fail
  rw [← HVV.out]
  obtain ⟨y, hy⟩ : ∃ y, y = w.heap.size := ⟨_, rfl⟩
  rw [← hy] at HR0 HR1 HVS HB ⊢
  have HY := Lib.hid hy
  clear hy HVV
  go_loopw [4] (fun vi wr => ∃ (k : Nat) (v : Value), k ≤ m ∧ vi = .int .i64 (k : Nat) ∧ Hid (wr.heap[y]? = some (.cells #[.slice none 0 0] 28 (0, 0))) ∧ Hid (wr.heap[y + 1]? = some (.cells #[v] 28 (0, 0))) ∧ Hid (OwnN wr (y + 2) v (List.replicate k (-1))) ∧ Hid (Below y w wr)) (fun vi _ => m - (intOf vi).toNat)
  case atStart => exact ⟨0, _, Nat.zero_le _, rfl, HR0, HR1, Lib.hid (OwnN.nil _ _), HB⟩
  case round =>
    obtain ⟨wo, rfl⟩ : ∃ wo : World, wo = wr := ⟨_, rfl⟩
    obtain ⟨k, v, hk, rfl, HZ, HZ1, HO, HC⟩ := hrel
    obtain ⟨A, c, hv⟩ := HO.out.form_n (show (List.replicate k (-1 : Int)).length = k by simp)
    subst hv
    have d1 := cell_of_row wo (y + 1) 0 _ _ _ HZ1.out
    simp at d1
    have hyl : y + 1 < wo.heap.size := heap_lt HZ1.out
    by_cases hlt : k < m
    · obtain ⟨h1, h2⟩ := HM.out k hlt
      have hsz : y + 2 ≤ wo.heap.size := hyl
      have HLEN : Hid ((List.replicate k (-1 : Int)).length ≤ 1000000) := Lib.hid (by simp; omega)
      go_wp2_with (first
        | (at_builtin
           go_loud (refine wpList_app rfl _ _ rfl (y + 2) _ (List.replicate k (-1)) rfl (w := wo) (-1) rfl HO.out HLEN.out 1 rfl hsz ?_)
           go_loud (intro v4 w4 o4 c4 n4)
           obtain ⟨A4, c5, hv4⟩ := o4.form_n (show (List.replicate k (-1 : Int) ++ [-1]).length = k + 1 by simp)
           subst hv4
           have q1 := (c4.bel.block (y + 1) (by omega)).trans HZ1.out
           have qc := cell_of_row w4 (y + 1) 0 _ _ _ q1
           simp at qc
           have fz := fun j => frozen_of_row w4 (y + 1) j _ _ q1
           have hy4 : y + 1 < w4.heap.size := heap_lt q1))
      generalize hW : w4.setCell ⟨y + 1, 0, none⟩ (.slice A4 (k + 1) c5) = W
      obtain ⟨g1, g2, g3, g4, g5⟩ := one_fin q1 (show y ≤ y + 1 from Nat.le_succ y) (HC.out.trans (c4.bel.mono (by omega))) _ hW
      have HZ4 := Lib.hid (((g4 y (by omega)).trans (c4.bel.block y (by omega))).trans HZ.out)
      have HZ5 := Lib.hid g2
      have HO4 : Hid (OwnN W (y + 2) (.slice A4 (k + 1) c5) (List.replicate (k + 1) (-1))) := Lib.hid (by
        rw [show List.replicate (k + 1) (-1 : Int) = List.replicate k (-1) ++ [-1] from by rw [List.replicate_succ']]
        exact o4.keep fun b hb => g4 b (by have := (o4.lt hb).1; omega))
      have HC4 := Lib.hid g1
      clear g1 g2 g3 g4 g5 hW o4 c4 n4 q1 qc fz hy4 HZ HZ1 HO HC d1
      go_roundw
      case rel => exact ⟨k + 1, _, by omega, by go_num, HZ4, HZ5, HO4, HC4⟩
      case measure => simp [intOf]; omega
    · obtain rfl : m = k := by omega
      have hm2 := HM2.out
      have d0 := cell_of_row wo y 0 _ _ _ HZ.out
      simp at d0
      have fz := fun j => frozen_of_row wo y j _ _ HZ.out
      have hy0 : y < wo.heap.size := heap_lt HZ.out
      by_cases h8 : m < 8
      · have hmn : ¬ (m : Int) < n := fun h => hm2 ⟨h, h8⟩
        clear hm2
        go_wp2
        generalize hW : wo.setCell ⟨y, 0, none⟩ (.slice A m c) = W
        obtain ⟨g1, g2, g3, g4, g5⟩ := one_fin HZ.out (Nat.le_refl y) HC.out _ hW
        refine bodyPost_ret (v := .agg #[.slice A m c]) ?_ rfl ⟨_, rfl, ?_, by rw [← HY.out]; exact g1⟩
        · simp [results, Try.results9, go_sem, g3]
        · rw [HNM.out, ← HY.out]
          exact (HO.out.keep fun b hb => g4 b (by have := (HO.out.lt hb).1; omega)).mono (by omega)
      · clear hm2
        go_wp2
        all_goals
          generalize hW : wo.setCell ⟨y, 0, none⟩ (.slice A m c) = W
          obtain ⟨g1, g2, g3, g4, g5⟩ := one_fin HZ.out (Nat.le_refl y) HC.out _ hW
          refine bodyPost_ret (v := .agg #[.slice A m c]) ?_ rfl ⟨_, rfl, ?_, by rw [← HY.out]; exact g1⟩
          · simp [results, Try.results9, go_sem, g3]
          · rw [HNM.out, ← HY.out]
            exact (HO.out.keep fun b hb => g4 b (by have := (HO.out.lt hb).1; omega)).mono (by omega)

end Go.Proofs.Ytpdihmlilbccjaa
