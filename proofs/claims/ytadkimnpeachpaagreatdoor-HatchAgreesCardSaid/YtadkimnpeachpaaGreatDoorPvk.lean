/- Layer 8: which names an expression mentions; what it gives hangs on them alone. -/
import Derived.Test.YtadkimnpeachpaaGreatDoorPvi
import Derived.Test.YtadkimnpeachpaaGreatDoorPmb
set_option linter.unusedVariables false
set_option linter.unusedSimpArgs false
namespace Go.Proofs.YtadkimnpeachpaaGreatDoor
open Go.RowKit

mutual
/-- does it have a name in it? -/
def menE (s : List UInt8) : Ex → Bool
  | .mk k _ _ t es => (k == 4 && t == s) || menL s es
def menL (s : List UInt8) : List Ex → Bool
  | [] => false
  | e :: es => menE s e || menL s es
end
theorem menL_hit {s : List UInt8} : ∀ {es : List Ex} {j : Nat} (hj : j < es.length), menE s es[j] = true → menL s es = true
  | e :: es, 0, _, h => by rw [menL, show menE s e = true from h]; rfl
  | e :: es, j + 1, hj, h => by rw [menL, menL_hit (j := j) (by simpa using hj) h]; simp
theorem menL_no {s : List UInt8} : ∀ {es : List Ex}, (∀ j (hj : j < es.length), menE s es[j] = false) → menL s es = false
  | [], _ => by rw [menL]
  | e :: es, h => by
    rw [menL, show menE s e = false from h 0 (by simp), menL_no (fun j hj => h (j + 1) (by simpa using hj))]; rfl

theorem inV_eq {nms : List (List UInt8)} {xs ys : List Int} {s : List UInt8} (h : ∀ (i : Nat) (hi : i < nms.length), nms[i] = s → ys[i]? = xs[i]?) : inV nms xs s = inV nms ys s := by
  unfold inV
  cases he : nms.idxOf? s with
  | none => rfl
  | some i =>
    show xs[i]?.getD 0 = ys[i]?.getD 0
    have := List.idxOf?_eq_some_iff.1 he
    obtain ⟨hi, hs, -⟩ := this
    rw [h i hi hs]
mutual
/-- what an expression gives hangs on the inputs alone that it mentions -/
theorem valE_eq {nms : List (List UInt8)} {xs ys : List Int} : ∀ (e : Ex), (∀ (i : Nat) (hi : i < nms.length), menE nms[i] e = true → ys[i]? = xs[i]?) → valE nms xs e = valE nms ys e
  | .mk k p n s es, h => by
    rw [valE, valE]
    have h1 := valEs_eq es (fun i hi hm => h i hi (by rw [menE, hm]; simp))
    rw [h1]
    unfold kV
    split
    · rfl
    · split
      · rename_i hk
        exact inV_eq fun i hi hs => h i hi (by rw [menE, hk, hs]; simp)
      · rfl
theorem valEs_eq {nms : List (List UInt8)} {xs ys : List Int} : ∀ (es : List Ex), (∀ (i : Nat) (hi : i < nms.length), menL nms[i] es = true → ys[i]? = xs[i]?) → valEs nms xs es = valEs nms ys es
  | [], _ => by rw [valEs, valEs]
  | e :: es, h => by
    rw [valEs, valEs, valE_eq e (fun i hi hm => h i hi (by rw [menL, hm]; rfl)), valEs_eq es (fun i hi hm => h i hi (by rw [menL, hm]; simp))]
end

/-- what mentions answers of an expression with such arguments -/
def MenP (w0 : World) (B : Nat) (es : List Ex) (v : Value) : Prop :=
  ∀ (k p n : Int) (t s : List UInt8) (w : World), Below B w0 w → B ≤ w.heap.size →
    Calls Tryz.prog 15 #[.agg #[.int .i64 k, .int .i64 p, .int .i64 n, .string (strOf t), v], .string (strOf s)] w fun e w' => e = .returned (.bool (menE s (.mk k p n t es))) ∧ Below w.heap.size w w'

set_option maxRecDepth 100000 in
set_option maxHeartbeats 4000000 in
theorem mentions_any {w0 : World} {B : Nat} {es : List Ex} {v : Value} (h : IsExs w0 (· < B) es v) : MenP w0 B es v := by
  induction h with
  | mk es A c f hc hM hA hr ih =>
    intro k p n t s w hb hB
    have hkid : ∀ (j : Nat) (hj : j < es.length), ∃ b off, A = some ⟨b, off, none⟩ ∧ b < B ∧
        w0.cell? ⟨b, off + j * 5, none⟩ = some (.int .i64 es[j].kind) ∧ w0.cell? ⟨b, off + j * 5 + 1, none⟩ = some (.int .i64 es[j].pl) ∧ w0.cell? ⟨b, off + j * 5 + 2, none⟩ = some (.int .i64 es[j].num) ∧
        w0.cell? ⟨b, off + j * 5 + 3, none⟩ = some (.string (strOf es[j].name)) ∧ w0.cell? ⟨b, off + j * 5 + 4, none⟩ = some (f j) ∧
        ∀ (w : World), Below B w0 w → B ≤ w.heap.size →
          Calls Tryz.prog 15 #[.agg #[.int .i64 es[j].kind, .int .i64 es[j].pl, .int .i64 es[j].num, .string (strOf es[j].name), f j], .string (strOf s)] w fun e w' => e = .returned (.bool (menE s es[j])) ∧ Below w.heap.size w w' := fun j hj => by
      obtain ⟨b, off, h1, h2, h3, h4, h5, h6, h7, h8⟩ := hA j hj
      refine ⟨b, off, h1, h2, h4, h5, h6, h7, h8, fun w a1 a2 => ?_⟩
      have := ih j hj es[j].kind es[j].pl es[j].num es[j].name s w a1 a2
      rw [Ex.eta] at this
      exact this
    obtain ⟨ne, hne⟩ : ∃ ne, ne = es.length := ⟨_, rfl⟩
    obtain ⟨N, hN⟩ : ∃ N, N = strOf t := ⟨_, rfl⟩
    obtain ⟨M, hMq⟩ : ∃ M, M = strOf s := ⟨_, rfl⟩
    have hNl : N.toList = t := by rw [hN]; exact strOf_list t
    have hMl : M.toList = s := by rw [hMq]; exact strOf_list s
    rw [← hMq] at hkid ⊢
    rw [← hN]
    rw [← hne] at hc ⊢
    have hme : menE s (.mk k p n t es) = ((k == 4 && t == s) || menL s es) := by rw [menE]
    rw [hme]
    have HH := Lib.hid hkid
    have HNE := Lib.hid hne
    have HB0 := Lib.hid hb
    have HBS := Lib.hid hB
    clear hA ih hr hkid hne hb hB hN hMq
    obtain ⟨X, hX⟩ : ∃ X : World, X = w.alloc (.cells #[.int .i64 k, .int .i64 p, .int .i64 n, .string N, .slice A ne c] 24) := ⟨_, rfl⟩
    have hXb : Below w.heap.size w X := by rw [hX]; exact (Below.refl _ _).alloc (Nat.le_refl _) _
    have hXs : X.heap.size = w.heap.size + 1 := by rw [hX]; simp
    have hbox : X.heap[w.heap.size]? = some (.cells #[.int .i64 k, .int .i64 p, .int .i64 n, .string N, .slice A ne c] 24 (0, 0)) := by rw [hX]; exact heap_alloc_new _ _
    have HX := Lib.hid hX
    have HXB := Lib.hid hXb
    have HXS := Lib.hid hXs
    have HBOX := Lib.hid hbox
    have z0 : X.cell? ⟨w.heap.size, 0, none⟩ = some (.int .i64 k) := by rw [cell_of_row X _ 0 _ _ (0, 0) hbox]; rfl
    have z3 : X.cell? ⟨w.heap.size, 3, none⟩ = some (.string N) := by rw [cell_of_row X _ 3 _ _ (0, 0) hbox]; rfl
    clear hX hXb hXs hbox
    by_cases hk : k = 4 ∧ t = s
    · obtain ⟨rfl, hts⟩ := hk
      have hq : (N.toList == M.toList) = true := by rw [hNl, hMl, hts]; simp
      have HR : Hid (((4 : Int) == 4 && t == s || menL s es) = true) := Lib.hid (by rw [hts]; simp)
      clear hNl hMl hts HH
      go_enter Tryz.func15, Tryz.ntmps15
      go_upto_region 1 with fail
      rw [← HX.out]
      go_wp2
      go_ret
      exact ⟨by rw [HR.out]; rfl, HXB.out⟩
    · have HR : Hid ((k == 4 && t == s || menL s es) = menL s es) := Lib.hid (by
        have : (k == 4 && t == s) = false := by
          rw [Bool.and_eq_false_iff]
          by_cases h4 : k = 4
          · right; simpa using fun e => hk ⟨h4, e⟩
          · left; simpa using h4
        rw [this]; rfl)
      have hq2 : k = 4 → (N.toList == M.toList) = false := fun h4 => by
        rw [hNl, hMl]; simpa using fun e => hk ⟨h4, e⟩
      clear hNl hMl
      go_enter Tryz.func15, Tryz.ntmps15
      go_upto_region 1 with fail
      rw [← HX.out]
      by_cases h4 : k = 4
      · subst h4
        have hq := hq2 rfl
        clear hq2 hk
        go_wp2
        go_loopw [5] (fun i wr => ∃ j : Nat, j ≤ ne ∧ i = .int .i64 j ∧ Hid (∀ q (hq : q < es.length), q < j → menE s es[q] = false) ∧ Hid (Below (w.heap.size + 1) X wr)) (fun i _ => ne - (intOf i).toNat)
        case atStart => exact ⟨0, Nat.zero_le _, rfl, Lib.hid (fun q _ hq => absurd hq (by omega)), Lib.hid (Below.refl _ _)⟩
        case round =>
          obtain ⟨wo, rfl⟩ : ∃ wo : World, wo = wr := ⟨_, rfl⟩
          obtain ⟨j, hj, rfl, HF, HBL⟩ := hrel
          have hbxr : wo.heap[w.heap.size]? = some (.cells #[.int .i64 4, .int .i64 p, .int .i64 n, .string N, .slice A ne c] 24 (0, 0)) := (HBL.out.block w.heap.size (by omega)).trans HBOX.out
          have z4 : wo.cell? ⟨w.heap.size, 4, none⟩ = some (.slice A ne c) := by rw [cell_of_row wo _ 4 _ _ (0, 0) hbxr]; rfl
          have HBW : Hid (Below w.heap.size w wo) := Lib.hid (HXB.out.trans (HBL.out.mono (by omega)))
          have HB0W : Hid (Below B w0 wo) := Lib.hid (HB0.out.trans (HBW.out.mono HBS.out))
          have HSZ : Hid (w.heap.size + 1 ≤ wo.heap.size) := Lib.hid (by have := HBL.out.size; have := HXS.out; omega)
          clear hbxr z0 z3
          by_cases hlt : j < ne
          · have hje : j < es.length := by rw [← HNE.out]; exact hlt
            obtain ⟨b, off, rfl, hbB, p0, p1, p2, p3, p4, hc1⟩ := HH.out j hje
            have HCC := Lib.hid (hc1 wo HB0W.out (Nat.le_trans HBS.out HBW.out.size))
            have r0 := (HB0W.out.cell (p := ⟨b, off + j * 5, none⟩) hbB).trans p0
            have r1 := (HB0W.out.cell (p := ⟨b, off + j * 5 + 1, none⟩) hbB).trans p1
            have r2 := (HB0W.out.cell (p := ⟨b, off + j * 5 + 2, none⟩) hbB).trans p2
            have r3 := (HB0W.out.cell (p := ⟨b, off + j * 5 + 3, none⟩) hbB).trans p3
            have r4 := (HB0W.out.cell (p := ⟨b, off + j * 5 + 4, none⟩) hbB).trans p4
            have hwj : IntKind.i64.wrap ((j : Int) + 1) = (j : Int) + 1 := IntWalk.i64_in _ ⟨by omega, by omega⟩
            cases hmj : menE s es[j] with
            | true =>
              have HRR : Hid (menL s es = true) := Lib.hid (menL_hit hje hmj)
              rw [hmj] at HCC
              generalize es[j].kind = a0 at r0 HCC
              generalize es[j].pl = a1 at r1 HCC
              generalize es[j].num = a2 at r2 HCC
              generalize strOf es[j].name = a3 at r3 HCC
              generalize f j = a4 at r4 HCC
              clear p0 p1 p2 p3 p4 hc1 HH HF hmj
              go_wp2_with (first
                | ((with_reducible refine HCC.out.mono ?_); rintro e w1 ⟨rfl, hb1⟩; have HB1 := Lib.hid hb1; clear hb1))
              go_ret
              exact ⟨by rw [HR.out, HRR.out]; rfl, HBW.out.trans (HB1.out.mono HBW.out.size)⟩
            | false =>
              have HF2 : Hid (∀ q (hq : q < es.length), q < j + 1 → menE s es[q] = false) := Lib.hid fun q hq hqj => by
                by_cases e : q = j
                · subst e; exact hmj
                · exact HF.out q hq (by omega)
              rw [hmj] at HCC
              generalize es[j].kind = a0 at r0 HCC
              generalize es[j].pl = a1 at r1 HCC
              generalize es[j].num = a2 at r2 HCC
              generalize strOf es[j].name = a3 at r3 HCC
              generalize f j = a4 at r4 HCC
              clear p0 p1 p2 p3 p4 hc1 HH HF hmj
              go_wp2_with (first
                | ((with_reducible refine HCC.out.mono ?_); rintro e w1 ⟨rfl, hb1⟩; have HB1 := Lib.hid hb1; clear hb1))
              go_roundw
              case rel => exact ⟨j + 1, by omega, by go_num, HF2, Lib.hid (HBL.out.trans (HB1.out.mono HSZ.out))⟩
              case measure => first | (simp [intOf]; done) | (simp [intOf]; omega)
          · have HRR : Hid (menL s es = false) := Lib.hid (menL_no fun q hq => HF.out q hq (by rw [← HNE.out] at hq; omega))
            clear HF HH
            go_wp2
            go_ret
            exact ⟨by rw [HR.out, HRR.out]; rfl, HBW.out⟩
      · clear hq2 hk
        go_wp2
        go_loopw [5] (fun i wr => ∃ j : Nat, j ≤ ne ∧ i = .int .i64 j ∧ Hid (∀ q (hq : q < es.length), q < j → menE s es[q] = false) ∧ Hid (Below (w.heap.size + 1) X wr)) (fun i _ => ne - (intOf i).toNat)
        case atStart => exact ⟨0, Nat.zero_le _, rfl, Lib.hid (fun q _ hq => absurd hq (by omega)), Lib.hid (Below.refl _ _)⟩
        case round =>
          obtain ⟨wo, rfl⟩ : ∃ wo : World, wo = wr := ⟨_, rfl⟩
          obtain ⟨j, hj, rfl, HF, HBL⟩ := hrel
          have hbxr : wo.heap[w.heap.size]? = some (.cells #[.int .i64 k, .int .i64 p, .int .i64 n, .string N, .slice A ne c] 24 (0, 0)) := (HBL.out.block w.heap.size (by omega)).trans HBOX.out
          have z4 : wo.cell? ⟨w.heap.size, 4, none⟩ = some (.slice A ne c) := by rw [cell_of_row wo _ 4 _ _ (0, 0) hbxr]; rfl
          have HBW : Hid (Below w.heap.size w wo) := Lib.hid (HXB.out.trans (HBL.out.mono (by omega)))
          have HB0W : Hid (Below B w0 wo) := Lib.hid (HB0.out.trans (HBW.out.mono HBS.out))
          have HSZ : Hid (w.heap.size + 1 ≤ wo.heap.size) := Lib.hid (by have := HBL.out.size; have := HXS.out; omega)
          clear hbxr z0 z3
          by_cases hlt : j < ne
          · have hje : j < es.length := by rw [← HNE.out]; exact hlt
            obtain ⟨b, off, rfl, hbB, p0, p1, p2, p3, p4, hc1⟩ := HH.out j hje
            have HCC := Lib.hid (hc1 wo HB0W.out (Nat.le_trans HBS.out HBW.out.size))
            have r0 := (HB0W.out.cell (p := ⟨b, off + j * 5, none⟩) hbB).trans p0
            have r1 := (HB0W.out.cell (p := ⟨b, off + j * 5 + 1, none⟩) hbB).trans p1
            have r2 := (HB0W.out.cell (p := ⟨b, off + j * 5 + 2, none⟩) hbB).trans p2
            have r3 := (HB0W.out.cell (p := ⟨b, off + j * 5 + 3, none⟩) hbB).trans p3
            have r4 := (HB0W.out.cell (p := ⟨b, off + j * 5 + 4, none⟩) hbB).trans p4
            have hwj : IntKind.i64.wrap ((j : Int) + 1) = (j : Int) + 1 := IntWalk.i64_in _ ⟨by omega, by omega⟩
            cases hmj : menE s es[j] with
            | true =>
              have HRR : Hid (menL s es = true) := Lib.hid (menL_hit hje hmj)
              rw [hmj] at HCC
              generalize es[j].kind = a0 at r0 HCC
              generalize es[j].pl = a1 at r1 HCC
              generalize es[j].num = a2 at r2 HCC
              generalize strOf es[j].name = a3 at r3 HCC
              generalize f j = a4 at r4 HCC
              clear p0 p1 p2 p3 p4 hc1 HH HF hmj
              go_wp2_with (first
                | ((with_reducible refine HCC.out.mono ?_); rintro e w1 ⟨rfl, hb1⟩; have HB1 := Lib.hid hb1; clear hb1))
              go_ret
              exact ⟨by rw [HR.out, HRR.out]; rfl, HBW.out.trans (HB1.out.mono HBW.out.size)⟩
            | false =>
              have HF2 : Hid (∀ q (hq : q < es.length), q < j + 1 → menE s es[q] = false) := Lib.hid fun q hq hqj => by
                by_cases e : q = j
                · subst e; exact hmj
                · exact HF.out q hq (by omega)
              rw [hmj] at HCC
              generalize es[j].kind = a0 at r0 HCC
              generalize es[j].pl = a1 at r1 HCC
              generalize es[j].num = a2 at r2 HCC
              generalize strOf es[j].name = a3 at r3 HCC
              generalize f j = a4 at r4 HCC
              clear p0 p1 p2 p3 p4 hc1 HH HF hmj
              go_wp2_with (first
                | ((with_reducible refine HCC.out.mono ?_); rintro e w1 ⟨rfl, hb1⟩; have HB1 := Lib.hid hb1; clear hb1))
              go_roundw
              case rel => exact ⟨j + 1, by omega, by go_num, HF2, Lib.hid (HBL.out.trans (HB1.out.mono HSZ.out))⟩
              case measure => first | (simp [intOf]; done) | (simp [intOf]; omega)
          · have HRR : Hid (menL s es = false) := Lib.hid (menL_no fun q hq => HF.out q hq (by rw [← HNE.out] at hq; omega))
            clear HF HH
            go_wp2
            go_ret
            exact ⟨by rw [HR.out, HRR.out]; rfl, HBW.out⟩

end Go.Proofs.YtadkimnpeachpaaGreatDoor
