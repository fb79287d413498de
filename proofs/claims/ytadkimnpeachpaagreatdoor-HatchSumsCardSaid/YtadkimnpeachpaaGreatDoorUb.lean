/- The walk of Weigh. -/
import Derived.Test.YtadkimnpeachpaaGreatDoorUa
set_option linter.unusedVariables false
namespace Go.Proofs.YtadkimnpeachpaaGreatDoor
open Go.RowKit

theorem weighs_go {e : Ex} {es : List Ex} {n most deep : Int} (h : n ≤ most) : weighs (e :: es) n most deep = weighs es (n + weigh e (most - n) (deep - 1)) most deep := by
  rw [weighs, if_pos h]
theorem weigh_mk (k p num most deep : Int) (name : List UInt8) (es : List Ex) : weigh (.mk k p num name es) most deep = if deep = 0 ∧ 0 < es.length then most + 1 else weighs es (1 + (name.length : Int)) most deep := by
  rw [weigh]
def WeighPost (w : World) (r : Int) (e : Ending) (w' : World) : Prop := e = .returned (.int .i64 r) ∧ Below w.heap.size w w'
/-- what an expression with such arguments weighs -/
def Weighs (w0 : World) (B : Nat) (es : List Ex) (v : Value) : Prop :=
  ∀ (k p num most deep : Int) (name : List UInt8) (w : World), Below B w0 w → B ≤ w.heap.size → name.length ≤ 140737488355328 → 0 ≤ most → most ≤ 100000 → 0 ≤ deep → deep ≤ 100000 →
    Calls Tryz.prog 7 #[.agg #[.int .i64 k, .int .i64 p, .int .i64 num, .string (strOf name), v], .int .i64 most, .int .i64 deep] w
      (WeighPost w (weigh (.mk k p num name es) most deep)) ∧ 0 ≤ weigh (.mk k p num name es) most deep ∧ weigh (.mk k p num name es) most deep ≤ most + 140737488355330
theorem drop_ex {es : List Ex} {j : Nat} (h : j < es.length) : es.drop j = es[j] :: es.drop (j + 1) := List.drop_eq_getElem_cons h
theorem weighs_bound {most deep K : Int} (hK : 140737488355330 ≤ K) : ∀ (es : List Ex) (n : Int), (∀ (j : Nat) (hj : j < es.length) (m : Int), 0 ≤ m → m ≤ most → 0 ≤ weigh es[j] m (deep - 1) ∧ weigh es[j] m (deep - 1) ≤ m + 140737488355330) → 0 ≤ n → n ≤ most + K →
    0 ≤ weighs es n most deep ∧ weighs es n most deep ≤ most + K
  | [], n, _, h0, h1 => by rw [weighs]; exact ⟨h0, h1⟩
  | e :: es, n, h, h0, h1 => by
    rw [weighs]
    split
    · rename_i hn
      obtain ⟨a, b⟩ := h 0 (by simp) (most - n) (by omega) (by omega)
      have a' : 0 ≤ weigh e (most - n) (deep - 1) := a
      have b' : weigh e (most - n) (deep - 1) ≤ most - n + 140737488355330 := b
      exact weighs_bound hK es _ (fun j hj m h2 h3 => h (j + 1) (by simpa using hj) m h2 h3) (by omega) (by omega)
    · exact ⟨h0, h1⟩

set_option maxHeartbeats 1000000 in
theorem weigh_any {w0 : World} {B : Nat} {es : List Ex} {v : Value} (h : IsExs w0 (· < B) es v) : Weighs w0 B es v := by
  induction h with
  | mk es A c f hc hM hA hr ih =>
    intro k p num most deep name w hb hB hname hm0 hm hd0 hd
    have hcall : ∀ (j : Nat) (hj : j < es.length), ∃ b off, A = some ⟨b, off, none⟩ ∧ b < B ∧
        w0.cell? ⟨b, off + j * 5, none⟩ = some (.int .i64 es[j].kind) ∧ w0.cell? ⟨b, off + j * 5 + 1, none⟩ = some (.int .i64 es[j].pl) ∧ w0.cell? ⟨b, off + j * 5 + 2, none⟩ = some (.int .i64 es[j].num) ∧
        w0.cell? ⟨b, off + j * 5 + 3, none⟩ = some (.string (strOf es[j].name)) ∧ w0.cell? ⟨b, off + j * 5 + 4, none⟩ = some (f j) ∧
        ∀ (m d : Int) (w : World), Below B w0 w → B ≤ w.heap.size → 0 ≤ m → m ≤ 100000 → 0 ≤ d → d ≤ 100000 →
          Calls Tryz.prog 7 #[.agg #[.int .i64 es[j].kind, .int .i64 es[j].pl, .int .i64 es[j].num, .string (strOf es[j].name), f j], .int .i64 m, .int .i64 d] w
            (WeighPost w (weigh es[j] m d)) ∧ 0 ≤ weigh es[j] m d ∧ weigh es[j] m d ≤ m + 140737488355330 := fun j hj => by
      obtain ⟨b, off, h1, h2, h3, h4, h5, h6, h7, h8⟩ := hA j hj
      refine ⟨b, off, h1, h2, h4, h5, h6, h7, h8, fun m d w a1 a2 a3 a4 a5 a6 => ?_⟩
      have := ih j hj es[j].kind es[j].pl es[j].num m d es[j].name w a1 a2 h3 a3 a4 a5 a6
      rw [Ex.eta] at this
      exact this
    have HH := Lib.hid hcall
    clear hA ih hr hcall
    have hwm := weigh_mk k p num most deep name es
    refine ⟨?_, ?_⟩
    · obtain ⟨ne, hne⟩ : ∃ ne, ne = es.length := ⟨_, rfl⟩
      obtain ⟨nl, hnl⟩ : ∃ nl : Nat, nl = name.length := ⟨_, rfl⟩
      have hsz : (strOf name).size = nl := by rw [Lib.size_eq, strOf_data, hnl]
      rw [← hnl] at hwm hname
      rw [← hne] at hc hwm ⊢
      have HNE := Lib.hid hne
      have HNL := Lib.hid hnl
      have HWM := Lib.hid hwm
      have HB0 := Lib.hid hb
      clear hne hnl hwm hb
      by_cases h00 : deep = 0 ∧ 0 < ne
      · obtain ⟨rfl, hpos⟩ := h00
        have hp1 : decide (0 < ne) = true := by simpa using hpos
        have HW1 : Hid (weigh (.mk k p num name es) most 0 = most + 1) := Lib.hid (by rw [HWM.out, if_pos ⟨rfl, hpos⟩])
        clear HWM
        go_enter Tryz.func7, Tryz.ntmps7
        go_wp2
        go_ret
        exact ⟨ret_int HW1.out.symm, (Below.refl _ _).alloc (Nat.le_refl _) _⟩
      · have HW2 : Hid (weigh (.mk k p num name es) most deep = weighs es (1 + (nl : Int)) most deep) := Lib.hid (by rw [HWM.out, if_neg h00])
        clear HWM
        have hdn : 0 < ne → 0 < deep := fun h => by
          rcases Int.lt_or_le 0 deep with h1 | h1
          · exact h1
          · exact absurd ⟨by omega, h⟩ h00
        have hdl : (ne : Int) ≤ 9223372036854775807 * deep := by
          rcases Nat.eq_zero_or_pos ne with h | h
          · omega
          · have := hdn h; omega
        clear h00 hdn
        by_cases hdz : deep = 0
        · subst hdz
          obtain rfl : ne = 0 := by omega
          obtain rfl : es = [] := List.eq_nil_of_length_eq_zero HNE.out.symm
          have HWS : Hid (weighs [] (1 + (nl : Int)) most 0 = 1 + (nl : Int)) := Lib.hid (by rw [weighs])
          clear HH HNE
          go_enter Tryz.func7, Tryz.ntmps7
          go_wp2
          obtain ⟨X, hX⟩ : ∃ X : World, X = w.alloc (.cells #[.int .i64 k, .int .i64 p, .int .i64 num, .string (strOf name), .slice A 0 c] 24) := ⟨_, rfl⟩
          go_loop [7, 8] (fun n i => i = .int .i64 0 ∧ n = .int .i64 (1 + (nl : Int))) (fun _ _ => 0)
          case atStart => exact ⟨rfl, rfl⟩
          case round =>
            obtain ⟨rfl, rfl⟩ := hrel
            clear hX
            go_wp2
            go_ret
            exact ⟨ret_int (by rw [HW2.out, HWS.out]), (Below.refl _ _).alloc (Nat.le_refl _) _⟩
        go_enter Tryz.func7, Tryz.ntmps7
        go_wp2
        obtain ⟨X, hX⟩ : ∃ X : World, X = w.alloc (.cells #[.int .i64 k, .int .i64 p, .int .i64 num, .string (strOf name), .slice A ne c] 24) := ⟨_, rfl⟩
        have hbox : X.heap[w.heap.size]? = some (.cells #[.int .i64 k, .int .i64 p, .int .i64 num, .string (strOf name), .slice A ne c] 24 (0, 0)) := by rw [hX]; exact heap_alloc_new w _
        have hXs : X.heap.size = w.heap.size + 1 := by rw [hX]; simp
        have hXb : Below w.heap.size w X := by rw [hX]; exact (Below.refl _ _).alloc (Nat.le_refl _) _
        rw [← hX]
        have HBOX := Lib.hid hbox
        have HXS := Lib.hid hXs
        have HXB := Lib.hid hXb
        clear hX hbox hXs hXb
        go_loopw [7, 8] (fun n i wr => ∃ (j : Nat) (nn : Int), j ≤ ne ∧ i = .int .i64 j ∧ n = .int .i64 nn ∧ 0 ≤ nn ∧ nn ≤ 140737488455331 ∧ Hid (weighs (es.drop j) nn most deep = weighs es (1 + (nl : Int)) most deep) ∧ Hid (Below (w.heap.size + 1) X wr)) (fun _ i _ => ne - (intOf i).toNat)
        case atStart => exact ⟨0, _, Nat.zero_le _, rfl, rfl, by omega, by omega, Lib.hid rfl, Lib.hid (Below.refl _ _)⟩
        case round =>
          obtain ⟨wo, rfl⟩ : ∃ wo : World, wo = wr := ⟨_, rfl⟩
          obtain ⟨j, nn, hj, rfl, rfl, hn0, hn1, HS, HBL⟩ := hrel
          have hbx : wo.cell? ⟨w.heap.size, 4, none⟩ = some (.slice A ne c) := by
            rw [cell_of_row wo w.heap.size 4 _ _ (0, 0) ((HBL.out.block w.heap.size (by omega)).trans HBOX.out)]; rfl
          have hbx0 : wo.cell? ⟨w.heap.size, 0, none⟩ = some (.int .i64 k) := by
            rw [cell_of_row wo w.heap.size 0 _ _ (0, 0) ((HBL.out.block w.heap.size (by omega)).trans HBOX.out)]; rfl
          by_cases hlt : j < ne
          · have hdp : 0 < deep := by omega
            by_cases hle : nn ≤ most
            · have hje : j < es.length := by rw [← HNE.out]; exact hlt
              obtain ⟨b, off, rfl, hbB, p0, p1, p2, p3, p4, hc⟩ := HH.out j hje
              have hdr := drop_ex hje
              have q0 := (HB0.out.cell (p := ⟨b, off + j * 5, none⟩) hbB)
              obtain ⟨Y, hY⟩ : ∃ Y, Y = es[j] := ⟨_, rfl⟩
              rw [← hY] at p0 p1 p2 p3 hc hdr
              have hbw : Below B w0 wo := HB0.out.trans ((HXB.out.trans (HBL.out.mono (by omega))).mono hB)
              have HWS : Hid (weighs (es.drop (j + 1)) (nn + weigh Y (most - nn) (deep - 1)) most deep = weighs es (1 + (nl : Int)) most deep) := Lib.hid (by
                have := HS.out
                rw [hdr, weighs_go hle] at this
                exact this)
              have hsx : B ≤ wo.heap.size := by
                have h1 := HBL.out.size
                have h2 := HXS.out
                omega
              obtain ⟨hcc, hc0, hc1⟩ := hc (most - nn) (deep - 1) wo hbw hsx (by omega) (by omega) (by omega) (by omega)
              have r0 := (hbw.cell (p := ⟨b, off + j * 5, none⟩) hbB).trans p0
              have r1 := (hbw.cell (p := ⟨b, off + j * 5 + 1, none⟩) hbB).trans p1
              have r2 := (hbw.cell (p := ⟨b, off + j * 5 + 2, none⟩) hbB).trans p2
              have r3 := (hbw.cell (p := ⟨b, off + j * 5 + 3, none⟩) hbB).trans p3
              have r4 := (hbw.cell (p := ⟨b, off + j * 5 + 4, none⟩) hbB).trans p4
              obtain ⟨yk, hyk⟩ : ∃ x, x = Y.kind := ⟨_, rfl⟩
              obtain ⟨yp, hyp⟩ : ∃ x, x = Y.pl := ⟨_, rfl⟩
              obtain ⟨yn, hyn⟩ : ∃ x, x = Y.num := ⟨_, rfl⟩
              obtain ⟨ys, hys⟩ : ∃ x, x = strOf Y.name := ⟨_, rfl⟩
              obtain ⟨yv, hyv⟩ : ∃ x, x = f j := ⟨_, rfl⟩
              obtain ⟨yw, hyw⟩ : ∃ x, x = weigh Y (most - nn) (deep - 1) := ⟨_, rfl⟩
              rw [← hyk, ← hyp, ← hyn, ← hys, ← hyv, ← hyw] at hcc
              rw [← hyw] at hc0 hc1 HWS
              rw [← hyk] at r0
              rw [← hyp] at r1
              rw [← hyn] at r2
              rw [← hys] at r3
              rw [← hyv] at r4
              have HCC := Lib.hid hcc
              clear hc hcc hdr q0 hY p0 p1 p2 p3 p4 hyk hyp hyn hys hyv hyw hbw HH
              go_wp2_with (first
                | ((with_reducible refine HCC.out.mono ?_); rintro e w1 ⟨rfl, hb1⟩))
              have hw1 := hb1.size
              go_roundw
              case rel => exact ⟨j + 1, nn + yw, by omega, by go_num, rfl, by omega, by omega, HWS, Lib.hid (HBL.out.trans (hb1.mono (by have h1 := HBL.out.size; have h2 := HXS.out; omega)))⟩
              case measure => simp [intOf]; omega
            · have HWS : Hid (nn = weighs es (1 + (nl : Int)) most deep) := Lib.hid (by have := HS.out; rw [weighs_stop _ _ _ _ hle] at this; exact this)
              clear HH
              go_wp2
              go_ret
              exact ⟨ret_int (by rw [HW2.out]; exact HWS.out), HXB.out.trans (HBL.out.mono (by omega))⟩
          · have hje : j = ne := by omega
            have HWS : Hid (nn = weighs es (1 + (nl : Int)) most deep) := Lib.hid (by
              have := HS.out
              rw [List.drop_of_length_le (by rw [hje, HNE.out]; exact Nat.le_refl _), weighs] at this
              exact this)
            clear HH hje
            go_wp2
            go_ret
            exact ⟨ret_int (by rw [HW2.out]; exact HWS.out), HXB.out.trans (HBL.out.mono (by omega))⟩
    · rw [hwm]
      split
      · omega
      · rename_i hne
        exact weighs_bound (Int.le_refl _) es _ (fun j hj m h2 h3 => by
          obtain ⟨_, _, _, _, _, _, _, _, _, hc⟩ := HH.out j hj
          by_cases hdp : deep = 0
          · exact absurd ⟨hdp, by omega⟩ hne
          · exact (hc m (deep - 1) w hb hB h2 (by omega) (by omega) (by omega)).2) (by omega) (by omega)

end Go.Proofs.YtadkimnpeachpaaGreatDoor
