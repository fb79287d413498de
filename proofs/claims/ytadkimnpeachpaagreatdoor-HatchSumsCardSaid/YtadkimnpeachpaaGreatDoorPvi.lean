/- Layer 8: the document's Value. -/
import Derived.Test.YtadkimnpeachpaaGreatDoorPvh
import Derived.Test.YtadkimnpeachpaaGreatDoorPma
set_option linter.unusedVariables false
set_option linter.unusedSimpArgs false
namespace Go.Proofs.YtadkimnpeachpaaGreatDoor
open Go.RowKit

/-- numbers, whatever they are -/
def KJ : Kd Int where
  sz := 1
  pos := by decide
  Q := fun _ _ n cs => cs = [.int .i64 n]
  keep := fun h _ _ => h
  len := fun h => by rw [h]; rfl
  one := fun h u hu => by rw [h] at hu; simp at hu; subst hu; rfl
theorem Lies.num {w : World} {S : Nat → Prop} {xs : List Int} {A : Option Addr} {n c : Nat} (h : Lies KJ w S xs (.slice A n c)) (k : Nat) (hk : k < xs.length) : ∃ b off, A = some ⟨b, off, none⟩ ∧ w.cell? ⟨b, off + k, none⟩ = some (.int .i64 xs[k]) := by
  obtain ⟨b, off, row, e, -, hq, hc⟩ := h.get k hk
  refine ⟨b, off, e, ?_⟩
  have := hc 0 (by decide)
  rw [show off + k * KJ.sz + 0 = off + k from by show off + k * 1 + 0 = off + k; omega] at this
  rw [this, show row = [.int .i64 xs[k]] from hq]
  rfl

theorem new_one (w : World) (y : Int) {i : Nat} {u : Value} (hu : ([.int .i64 y] : List Value)[i]? = some u) : (w.alloc (.cells #[.int .i64 y] 3)).cell? ((⟨w.heap.size, 0, none⟩ : Addr).add i) = some u := by
  obtain rfl : i = 0 := by
    rcases Nat.eq_zero_or_pos i with h | h
    · exact h
    · rw [List.getElem?_eq_none (by show 1 ≤ i; exact h)] at hu; cases hu
  cases hu
  rw [add_none, cell_of_row _ _ _ _ _ (0, 0) (heap_alloc_new w _)]
  rfl
/-- what the document says that an expression with such arguments gives -/
def RValP (w0 : World) (B : Nat) (nms : List (List UInt8)) (xs : List Int) (nv iv : Value) (es : List Ex) (v : Value) : Prop :=
  ∀ (k p n : Int) (s : List UInt8) (w : World), Below B w0 w → B ≤ w.heap.size → s.length ≤ 140737488355328 → partsL es ≤ 1000000 →
    Calls Tryz.prog 12 #[.agg #[.int .i64 k, .int .i64 p, .int .i64 n, .string (strOf s), v], nv, iv] w fun e w' => e = .returned (.int .i64 (kV nms xs k n s (es.map (valE nms xs)))) ∧ Below w.heap.size w w'
theorem parts_len : ∀ es : List Ex, es.length ≤ partsL es
  | [] => Nat.zero_le _
  | .mk k p n s a :: es => by
    have := parts_len es
    simp only [List.length_cons, partsL, parts]
    omega

set_option maxRecDepth 100000 in
set_option maxHeartbeats 8000000 in
theorem rvalue_any {w0 : World} {B : Nat} {nms : List (List UInt8)} {xs : List Int} {nv iv : Value} (hn : Lies KT w0 (· < B) nms nv) (hi : Lies KI w0 (· < B) xs iv) {es : List Ex} {v : Value} (h : IsExs w0 (· < B) es v) : RValP w0 B nms xs nv iv es v := by
  induction h with
  | mk es A c f hc hM hA hr ih =>
    intro k p n s w hb hB hs hp
    have hkid : ∀ (j : Nat) (hj : j < es.length), ∃ b off, A = some ⟨b, off, none⟩ ∧ b < B ∧
        w0.cell? ⟨b, off + j * 5, none⟩ = some (.int .i64 es[j].kind) ∧ w0.cell? ⟨b, off + j * 5 + 1, none⟩ = some (.int .i64 es[j].pl) ∧ w0.cell? ⟨b, off + j * 5 + 2, none⟩ = some (.int .i64 es[j].num) ∧
        w0.cell? ⟨b, off + j * 5 + 3, none⟩ = some (.string (strOf es[j].name)) ∧ w0.cell? ⟨b, off + j * 5 + 4, none⟩ = some (f j) ∧
        ∀ (w : World), Below B w0 w → B ≤ w.heap.size →
          Calls Tryz.prog 12 #[.agg #[.int .i64 es[j].kind, .int .i64 es[j].pl, .int .i64 es[j].num, .string (strOf es[j].name), f j], nv, iv] w fun e w' => e = .returned (.int .i64 (valE nms xs es[j])) ∧ Below w.heap.size w w' := fun j hj => by
      obtain ⟨b, off, h1, h2, h3, h4, h5, h6, h7, h8⟩ := hA j hj
      refine ⟨b, off, h1, h2, h4, h5, h6, h7, h8, fun w a1 a2 => ?_⟩
      have hpj := partsL_at es j hj
      have he : es[j] = .mk es[j].kind es[j].pl es[j].num es[j].name es[j].args := (Ex.eta _).symm
      have hpe : parts es[j] = 1 + partsL es[j].args := by conv => lhs; rw [he, parts]
      have := ih j hj es[j].kind es[j].pl es[j].num es[j].name w a1 a2 h3 (by omega)
      rw [← valE_mk (p := es[j].pl), Ex.eta] at this
      exact this
    have HH := Lib.hid hkid
    clear hA ih hr hkid
    obtain ⟨An, cn, rfl, hcn, hMn⟩ := hn.form
    obtain ⟨Ai, ci, rfl, hci, hMi⟩ := hi.form
    have HRA : Hid (∀ wx, Below B w0 wx → Calls Tryz.prog 21 #[.slice An nms.length cn, .string (strOf s)] wx fun e w' => e = .returned (.int .i64 (idxV nms s)) ∧ w' = wx) := Lib.hid fun wx hbx => rat_any (hn.below hbx) s
    have HIN : Hid (∀ wx (j : Nat) (hj : j < xs.length), Below B w0 wx → ∃ b off, Ai = some ⟨b, off, none⟩ ∧ wx.cell? ⟨b, off + j, none⟩ = some (.int .i64 xs[j])) := Lib.hid fun wx j hj hbx => by
      obtain ⟨b, off, e, -, h0, -⟩ := (hi.below hbx).int j hj
      exact ⟨b, off, e, h0⟩
    have HW : Hid (nms.idxOf? s = none ∧ idxV nms s = -1 ∨ ∃ j : Nat, nms.idxOf? s = some j ∧ idxV nms s = (j : Nat)) := Lib.hid (by
      rcases idxV_way nms s with ⟨a, b⟩ | ⟨j, a, b⟩
      · exact .inl ⟨b, a⟩
      · exact .inr ⟨j, b, a⟩)
    obtain ⟨ne, hne⟩ : ∃ ne, ne = es.length := ⟨_, rfl⟩
    obtain ⟨nx, hnx⟩ : ∃ nx, nx = xs.length := ⟨_, rfl⟩
    obtain ⟨nn, hnn⟩ : ∃ nn, nn = nms.length := ⟨_, rfl⟩
    obtain ⟨N, hN⟩ : ∃ N, N = strOf s := ⟨_, rfl⟩
    have hNl : N.toList = s := by rw [hN]; exact strOf_list s
    have hpl := parts_len es
    rw [← hnn] at HRA HH ⊢
    rw [← hnx] at hci hMi HH ⊢
    rw [← hne] at hc hpl ⊢
    rw [← hN] at HRA ⊢
    have HNE := Lib.hid hne
    have HNX := Lib.hid hnx
    have HNL := Lib.hid hNl
    have HB0 := Lib.hid hb
    have HBS := Lib.hid hB
    have HPL : Hid (ne ≤ 1000000) := Lib.hid (by omega)
    obtain ⟨R, hR⟩ : ∃ R, R = kV nms xs k n s (es.map (valE nms xs)) := ⟨_, rfl⟩
    rw [← hR]
    have HR := Lib.hid hR
    clear hne hnx hNl hnn hN hb hn hi hpl hp hB hs hR hcn hMn
    obtain ⟨X, hX⟩ : ∃ X : World, X = (w.alloc (.cells #[.int .i64 k, .int .i64 p, .int .i64 n, .string N, .slice A ne c] 24)).alloc (.cells #[] 3) := ⟨_, rfl⟩
    have e1 : (w.alloc (.cells #[.int .i64 k, .int .i64 p, .int .i64 n, .string N, .slice A ne c] 24)).heap.size = w.heap.size + 1 := by simp
    have hXb : Below w.heap.size w X := by rw [hX]; exact ((Below.refl _ _).alloc (Nat.le_refl _) _).alloc (by simp) _
    have hXs : X.heap.size = w.heap.size + 2 := by rw [hX]; simp
    have hbox : X.heap[w.heap.size]? = some (.cells #[.int .i64 k, .int .i64 p, .int .i64 n, .string N, .slice A ne c] 24 (0, 0)) := by
      rw [hX, Below.heap_alloc _ _ _ (by simp)]; exact heap_alloc_new _ _
    have hO0 : OwnL KJ 3 X (w.heap.size + 1) [] (.slice (some ⟨w.heap.size + 1, 0, none⟩) 0 0) := by
      rw [hX, ← e1]; exact OwnL.lit (E := KJ) 3 _
    have HX := Lib.hid hX
    have HXB := Lib.hid hXb
    have HXS := Lib.hid hXs
    have HBOX := Lib.hid hbox
    have HO0 := Lib.hid hO0
    clear hX e1 hXb hXs hbox hO0
    go_enter Tryz.func12, Tryz.ntmps12
    go_upto_region 2 with fail
    rw [← HX.out]
    go_wp2
    go_loopw [7, 8] (fun l i wr => ∃ j : Nat, j ≤ ne ∧ i = .int .i64 j ∧ Hid (OwnL KJ 3 wr (w.heap.size + 1) ((es.take j).map (valE nms xs)) l) ∧ Hid (Below (w.heap.size + 1) X wr)) (fun _ i _ => ne - (intOf i).toNat)
    case atStart => exact ⟨0, Nat.zero_le _, rfl, Lib.hid HO0.out, Lib.hid (Below.refl _ _)⟩
    case round =>
      obtain ⟨wo, rfl⟩ : ∃ wo : World, wo = wr := ⟨_, rfl⟩
      obtain ⟨j, hj, rfl, HO, HBL⟩ := hrel
      have hbxr : wo.heap[w.heap.size]? = some (.cells #[.int .i64 k, .int .i64 p, .int .i64 n, .string N, .slice A ne c] 24 (0, 0)) := (HBL.out.block w.heap.size (by omega)).trans HBOX.out
      have z0 : wo.cell? ⟨w.heap.size, 0, none⟩ = some (.int .i64 k) := by rw [cell_of_row wo _ 0 _ _ (0, 0) hbxr]; rfl
      have z2 : wo.cell? ⟨w.heap.size, 2, none⟩ = some (.int .i64 n) := by rw [cell_of_row wo _ 2 _ _ (0, 0) hbxr]; rfl
      have z3 : wo.cell? ⟨w.heap.size, 3, none⟩ = some (.string N) := by rw [cell_of_row wo _ 3 _ _ (0, 0) hbxr]; rfl
      have z4 : wo.cell? ⟨w.heap.size, 4, none⟩ = some (.slice A ne c) := by rw [cell_of_row wo _ 4 _ _ (0, 0) hbxr]; rfl
      have HBW : Hid (Below w.heap.size w wo) := Lib.hid (HXB.out.trans (HBL.out.mono (by omega)))
      have HB0W : Hid (Below B w0 wo) := Lib.hid (HB0.out.trans (HBW.out.mono HBS.out))
      have HSZ : Hid (w.heap.size + 2 ≤ wo.heap.size) := Lib.hid (by have := HBL.out.size; have := HXS.out; omega)
      clear hbxr
      by_cases hlt : j < ne
      · have hje : j < es.length := by rw [← HNE.out]; exact hlt
        obtain ⟨b, off, rfl, hbB, p0, p1, p2, p3, p4, hc1⟩ := HH.out j hje
        have htk : (es.take (j + 1)).map (valE nms xs) = (es.take j).map (valE nms xs) ++ [valE nms xs es[j]] := by
          rw [List.take_succ_eq_append_getElem hje, List.map_append]; rfl
        have HTK := Lib.hid htk
        have HCC := Lib.hid (hc1 wo HB0W.out (Nat.le_trans HBS.out HBW.out.size))
        have r0 := (HB0W.out.cell (p := ⟨b, off + j * 5, none⟩) hbB).trans p0
        have r1 := (HB0W.out.cell (p := ⟨b, off + j * 5 + 1, none⟩) hbB).trans p1
        have r2 := (HB0W.out.cell (p := ⟨b, off + j * 5 + 2, none⟩) hbB).trans p2
        have r3 := (HB0W.out.cell (p := ⟨b, off + j * 5 + 3, none⟩) hbB).trans p3
        have r4 := (HB0W.out.cell (p := ⟨b, off + j * 5 + 4, none⟩) hbB).trans p4
        have hwj : IntKind.i64.wrap ((j : Int) + 1) = (j : Int) + 1 := IntWalk.i64_in _ ⟨by omega, by omega⟩
        generalize valE nms xs es[j] = y at HCC HTK
        generalize es[j].kind = a0 at r0 HCC
        generalize es[j].pl = a1 at r1 HCC
        generalize es[j].num = a2 at r2 HCC
        generalize strOf es[j].name = a3 at r3 HCC
        generalize f j = a4 at r4 HCC
        have HLEN : Hid (((es.take j).map (valE nms xs)).length ≤ 1000000) := Lib.hid (by rw [List.length_map, List.length_take]; have := HPL.out; omega)
        generalize (es.take j).map (valE nms xs) = ys at HO HTK HLEN
        clear p0 p1 p2 p3 p4 hc1 htk HH HIN HRA HW
        go_wp2_with (first
          | ((with_reducible refine HCC.out.mono ?_); rintro e w1 ⟨rfl, hb1⟩; have HB1 := Lib.hid hb1; clear hb1)
          | (at_builtin; go_loud (refine wpList_append_one (E := KJ) rfl _ _ _ _ rfl Tryz.underlying26 _ _ info_int rfl (by decide) (w.heap.size + 1) ys _ rfl ((HO.out.below HB1.out).below ((Below.refl _ _).alloc (Nat.le_refl _) _)) HLEN.out ⟨w1.heap.size, 0, none⟩ _ y [.int .i64 y] rfl (fun i u hu => new_one w1 y hu) rfl (by have := HSZ.out; have := HB1.out.size; simp; omega) ?_; go_loud (intro v' w' ho hb'; have HO2 := Lib.hid ho; have HB2 := Lib.hid hb'; clear ho hb'))))
        go_roundw
        case rel => exact ⟨j + 1, by omega, by go_num, by rw [HTK.out]; exact HO2, Lib.hid (HBL.out.trans ((HB1.out.mono (by have := HSZ.out; omega)).trans (((Below.refl _ _).alloc (by have := HSZ.out; have := HB1.out.size; omega) _).trans HB2.out)))⟩
        case measure => first | (simp [intOf]; done) | (simp [intOf]; omega)
      · have hje : j = ne := by omega
        subst hje
        have hall : es.take j = es := by rw [HNE.out]; exact List.take_length
        rw [hall] at HO
        have hol : Lies KJ wo _ (es.map (valE nms xs)) _ := HO.out.lies
        have hlen : (es.map (valE nms xs)).length = j := by rw [List.length_map]; exact HNE.out.symm
        obtain ⟨Au, cu, hu, -, -⟩ := hol.form
        rw [hlen] at hu
        subst hu
        have HVS : Hid (∀ (q : Nat) (hq : q < (es.map (valE nms xs)).length), ∃ b off, Au = some ⟨b, off, none⟩ ∧ wo.cell? ⟨b, off + q, none⟩ = some (.int .i64 (es.map (valE nms xs))[q])) := Lib.hid fun q hq => hol.num q hq
        have HVL := Lib.hid hlen
        clear hol hall hlen HO HH
        generalize es.map (valE nms xs) = vs at HR HVS HVL
        by_cases h1 : k = 1
        · subst h1
          have HRV : Hid (R = n) := Lib.hid (by rw [HR.out]; simp [kV])
          clear HVS HIN HRA HW
          go_wp2
          go_ret
          exact ⟨by rw [HRV.out]; rfl, HBW.out⟩
        by_cases h4 : k = 4
        · subst h4
          have HRA2 := Lib.hid (HRA.out wo HB0W.out)
          rcases HW.out with ⟨hx, hi1⟩ | ⟨q, hx, hi1⟩
          · rw [hi1] at HRA2
            have HRV : Hid (R = 0) := Lib.hid (by rw [HR.out]; simp [kV, inV_no hx])
            clear HVS HIN HRA HW hx hi1
            go_wp2_with (first | ((with_reducible refine HRA2.out.mono ?_); rintro e w1 ⟨rfl, rfl⟩))
            go_ret
            exact ⟨by rw [HRV.out]; rfl, HBW.out⟩
          · rw [hi1] at HRA2
            by_cases hq : q < nx
            · obtain ⟨b1, o1, rfl, y0⟩ := HIN.out wo q (by rw [← HNX.out]; exact hq) HB0W.out
              have HRV : Hid (R = xs[q]'(by rw [← HNX.out]; exact hq)) := Lib.hid (by rw [HR.out]; simp [kV, inV_at hx (show q < xs.length by rw [← HNX.out]; exact hq)])
              generalize xs[q]'(by rw [← HNX.out]; exact hq) = xq at y0 HRV
              have hg1 : ¬ (q : Int) < 0 := by omega
              have hg2 : (q : Int) < (nx : Int) := by omega
              have hg3 : (0 : Int) ≤ (q : Int) := by omega
              clear HVS HIN HRA HW hx hi1
              go_wp2_with (first | ((with_reducible refine HRA2.out.mono ?_); rintro e w1 ⟨rfl, rfl⟩))
              go_ret
              exact ⟨by rw [HRV.out]; rfl, HBW.out⟩
            · have HRV : Hid (R = 0) := Lib.hid (by rw [HR.out]; simp [kV, inV_out hx (show xs.length ≤ q by rw [← HNX.out]; omega)])
              have hg1 : ¬ (q : Int) < 0 := by omega
              have hg2 : ¬ (q : Int) < (nx : Int) := by omega
              have hg3 : (0 : Int) ≤ (q : Int) := by omega
              clear HVS HIN HRA HW hx hi1
              go_wp2_with (first | ((with_reducible refine HRA2.out.mono ?_); rintro e w1 ⟨rfl, rfl⟩))
              go_ret
              exact ⟨by rw [HRV.out]; rfl, HBW.out⟩
        clear HIN HRA HW
        by_cases h9 : k = 9
        · subst h9
          by_cases hs1 : s = [45]
          · have e45 : (N.toList == [45]) = true := by rw [HNL.out, hs1]; rfl
            by_cases hj1 : j = 1
            · subst hj1
              obtain ⟨b1, o1, rfl, y0⟩ := HVS.out 0 (by rw [HVL.out]; omega)
              rw [Nat.add_zero] at y0
              have HRV : Hid (R = wrap64 (-(vs[0]'(by rw [HVL.out]; omega)))) := Lib.hid (by rw [HR.out]; simp [kV, hs1, HVL.out])
              generalize vs[0]'(by rw [HVL.out]; omega) = a at y0 HRV
              clear HVS
              go_wp2
              go_ret
              exact ⟨by rw [HRV.out]; rfl, HBW.out⟩
            · have HRV : Hid (R = 0) := Lib.hid (by rw [HR.out]; simp [kV, HVL.out, hj1])
              have hg1 : ¬ (j : Int) = 1 := by omega
              have hg2 : ((j : Int) == 1) = false := by rw [beq_eq_false_iff_ne]; exact hg1
              clear HVS
              go_wp2
              go_ret
              exact ⟨by rw [HRV.out]; rfl, HBW.out⟩
          · have e45 : (N.toList == [45]) = false := by rw [HNL.out]; simpa using hs1
            have HRV : Hid (R = 0) := Lib.hid (by rw [HR.out]; simp [kV, hs1])
            clear HVS
            go_wp2
            go_ret
            exact ⟨by rw [HRV.out]; rfl, HBW.out⟩
        by_cases h10 : k = 10
        · subst h10
          by_cases hj1 : j = 2
          · subst hj1
            obtain ⟨b1, o1, rfl, y0⟩ := HVS.out 0 (by rw [HVL.out]; omega)
            obtain ⟨b2, o2, he2, y1⟩ := HVS.out 1 (by rw [HVL.out]; omega)
            cases he2
            rw [Nat.add_zero] at y0
            have HRV0 : Hid (R = opV s (vs[0]'(by rw [HVL.out]; omega)) (vs[1]'(by rw [HVL.out]; omega))) := Lib.hid (by rw [HR.out]; simp [kV, HVL.out])
            generalize vs[0]'(by rw [HVL.out]; omega) = a at y0 HRV0
            generalize vs[1]'(by rw [HVL.out]; omega) = d at y1 HRV0
            clear HVS
            by_cases hs1 : s = [43]
            · have HRV : Hid (R = wrap64 (a + d)) := Lib.hid (by rw [HRV0.out, hs1]; rfl)
              have e43 : (N.toList == [43]) = true := by rw [HNL.out, hs1]; rfl
              clear HRV0 HR
              go_wp2
              go_quiet (fail)
              go_wp2
              go_ret
              exact ⟨by rw [HRV.out]; rfl, ⟨HBW.out.os, HBW.out.tape, HBW.out.output, HBW.out.size, HBW.out.block⟩⟩
            have g43 := hs1
            clear hs1
            by_cases hs1 : s = [45]
            · have HRV : Hid (R = wrap64 (a - d)) := Lib.hid (by rw [HRV0.out, hs1]; rfl)
              have e43 : (N.toList == [43]) = false := by rw [HNL.out, hs1]; rfl
              have e45 : (N.toList == [45]) = true := by rw [HNL.out, hs1]; rfl
              clear HRV0 HR
              go_wp2
              go_quiet (fail)
              go_wp2
              go_ret
              exact ⟨by rw [HRV.out]; rfl, ⟨HBW.out.os, HBW.out.tape, HBW.out.output, HBW.out.size, HBW.out.block⟩⟩
            have g45 := hs1
            clear hs1
            by_cases hs1 : s = [42]
            · have HRV : Hid (R = wrap64 (a * d)) := Lib.hid (by rw [HRV0.out, hs1]; rfl)
              have e43 : (N.toList == [43]) = false := by rw [HNL.out, hs1]; rfl
              have e45 : (N.toList == [45]) = false := by rw [HNL.out, hs1]; rfl
              have e42 : (N.toList == [42]) = true := by rw [HNL.out, hs1]; rfl
              clear HRV0 HR
              go_wp2
              go_quiet (fail)
              go_wp2
              go_ret
              exact ⟨by rw [HRV.out]; rfl, ⟨HBW.out.os, HBW.out.tape, HBW.out.output, HBW.out.size, HBW.out.block⟩⟩
            have g42 := hs1
            clear hs1
            by_cases hs1 : s = [47]
            · by_cases hd : d = 0
              · subst hd
                have HRV : Hid (R = 0) := Lib.hid (by rw [HRV0.out, hs1]; rfl)
                have e43 : (N.toList == [43]) = false := by rw [HNL.out, hs1]; rfl
                have e45 : (N.toList == [45]) = false := by rw [HNL.out, hs1]; rfl
                have e42 : (N.toList == [42]) = false := by rw [HNL.out, hs1]; rfl
                have e47 : (N.toList == [47]) = true := by rw [HNL.out, hs1]; rfl
                clear HRV0 HR
                go_wp2
                go_ret
                exact ⟨by rw [HRV.out]; rfl, HBW.out⟩
              · have HRV : Hid (R = wrap64 (a.tdiv d)) := Lib.hid (by rw [HRV0.out, hs1]; exact if_neg hd)
                have e43 : (N.toList == [43]) = false := by rw [HNL.out, hs1]; rfl
                have e45 : (N.toList == [45]) = false := by rw [HNL.out, hs1]; rfl
                have e42 : (N.toList == [42]) = false := by rw [HNL.out, hs1]; rfl
                have e47 : (N.toList == [47]) = true := by rw [HNL.out, hs1]; rfl
                have hd2 : (d == 0) = false := by simpa using hd
                clear HRV0 HR
                go_wp2
                go_quiet (fail)
                go_wp2
                go_ret
                exact ⟨by rw [HRV.out]; rfl, ⟨HBW.out.os, HBW.out.tape, HBW.out.output, HBW.out.size, HBW.out.block⟩⟩
            have g47 := hs1
            clear hs1
            by_cases hs1 : s = [37]
            · by_cases hd : d = 0
              · subst hd
                have HRV : Hid (R = 0) := Lib.hid (by rw [HRV0.out, hs1]; rfl)
                have e43 : (N.toList == [43]) = false := by rw [HNL.out, hs1]; rfl
                have e45 : (N.toList == [45]) = false := by rw [HNL.out, hs1]; rfl
                have e42 : (N.toList == [42]) = false := by rw [HNL.out, hs1]; rfl
                have e47 : (N.toList == [47]) = false := by rw [HNL.out, hs1]; rfl
                have e37 : (N.toList == [37]) = true := by rw [HNL.out, hs1]; rfl
                clear HRV0 HR
                go_wp2
                go_ret
                exact ⟨by rw [HRV.out]; rfl, HBW.out⟩
              · have HRV : Hid (R = a.tmod d) := Lib.hid (by rw [HRV0.out, hs1]; exact if_neg hd)
                have e43 : (N.toList == [43]) = false := by rw [HNL.out, hs1]; rfl
                have e45 : (N.toList == [45]) = false := by rw [HNL.out, hs1]; rfl
                have e42 : (N.toList == [42]) = false := by rw [HNL.out, hs1]; rfl
                have e47 : (N.toList == [47]) = false := by rw [HNL.out, hs1]; rfl
                have e37 : (N.toList == [37]) = true := by rw [HNL.out, hs1]; rfl
                have hd2 : (d == 0) = false := by simpa using hd
                clear HRV0 HR
                go_wp2
                go_quiet (fail)
                go_wp2
                go_ret
                exact ⟨by rw [HRV.out]; rfl, ⟨HBW.out.os, HBW.out.tape, HBW.out.output, HBW.out.size, HBW.out.block⟩⟩
            have g37 := hs1
            clear hs1
            have HRV : Hid (R = 0) := Lib.hid (by rw [HRV0.out]; unfold opV; rw [if_neg g43, if_neg g45, if_neg g42, if_neg g47, if_neg g37])
            have e43 : (N.toList == [43]) = false := by rw [HNL.out]; simpa using g43
            have e45 : (N.toList == [45]) = false := by rw [HNL.out]; simpa using g45
            have e42 : (N.toList == [42]) = false := by rw [HNL.out]; simpa using g42
            have e47 : (N.toList == [47]) = false := by rw [HNL.out]; simpa using g47
            have e37 : (N.toList == [37]) = false := by rw [HNL.out]; simpa using g37
            clear HRV0 HR g43 g45 g42 g47 g37
            go_wp2
            go_ret
            exact ⟨by rw [HRV.out]; rfl, HBW.out⟩
          · have HRV : Hid (R = 0) := Lib.hid (by rw [HR.out]; simp [kV, HVL.out, hj1])
            have hg1 : ¬ (j : Int) = 2 := by omega
            have hg2 : ((j : Int) == 2) = false := by rw [beq_eq_false_iff_ne]; exact hg1
            clear HVS
            go_wp2
            go_ret
            exact ⟨by rw [HRV.out]; rfl, HBW.out⟩
        have HRV : Hid (R = 0) := Lib.hid (by rw [HR.out]; simp [kV, h1, h4, h9, h10])
        clear HVS
        go_wp2
        go_ret
        exact ⟨by rw [HRV.out]; rfl, HBW.out⟩

end Go.Proofs.YtadkimnpeachpaaGreatDoor
