/- The document's own table: Ring. -/
import Derived.Test.YtpdihmlilbccjaaJlo
import Derived.StillTailTactics
set_option linter.unusedVariables false
set_option linter.unusedSimpArgs false
namespace Go.Proofs.Ytpdihmlilbccjaa
open Go.RowKit

theorem OwnN.lit1 (w : World) (base : Nat) (hb : base ≤ w.heap.size) (x : Int) : OwnN (w.alloc (.cells #[.int .i64 x] 3)) base (.slice (some ⟨w.heap.size, 0, none⟩) 1 1) [x] :=
  World.ownsRow_lit (e := 3) (size := 1) w #[.int .i64 x] 1 hb (by unfold maxLen; omega) rfl

set_option maxRecDepth 100000 in
set_option maxHeartbeats 4000000 in
theorem rring_any {w : World} {v u : Value} {hs ws : List Int} (h : LieN w v hs) (h8 : hs.length ≤ 8) (hu : LieN w u ws) (hl : ws.length ≤ 1000) :
    Calls Try.prog 22 #[.agg #[v], u] w (CopyN w (ringR hs ws)) := by
  obtain ⟨A, c, rfl, h1, h2⟩ := h.form
  obtain ⟨Au, cu, rfl, hu1, hu2⟩ := hu.form
  obtain ⟨r0, r1, r2⟩ := box_new w (.slice A hs.length c)
  obtain ⟨V, hV⟩ : ∃ V : World, V = w.alloc (.cells #[.slice A hs.length c] 28) := ⟨_, rfl⟩
  rw [← hV] at r0 r1 r2
  have HVV := Lib.hid hV
  obtain ⟨y, hy⟩ : ∃ y, y = w.heap.size := ⟨_, rfl⟩
  rw [← hy] at r0 r1 r2
  have HY := Lib.hid hy
  have HB := Lib.hid r2
  have HVS := Lib.hid (heap_lt r0)
  have HBX := Lib.hid r1
  have HL := Lib.hid (show ∀ wx : World, Below y w wx → LieN wx (.slice A hs.length c) hs from fun wx hb => h.below (by rw [← hy]; exact hb))
  have HU := Lib.hid (show ∀ wx : World, Below y w wx → LieN wx (.slice Au ws.length cu) ws from fun wx hb => hu.below (by rw [← hy]; exact hb))
  obtain ⟨n, hn⟩ : ∃ n, n = hs.length := ⟨_, rfl⟩
  obtain ⟨m, hm⟩ : ∃ m, m = ws.length := ⟨_, rfl⟩
  rw [← hn] at h1 HVV HBX HL ⊢
  rw [← hm] at hu1 hl HU ⊢
  obtain ⟨R, hR⟩ : ∃ R, R = ringR hs ws := ⟨_, rfl⟩
  rw [← hR]
  have HR : Hid (R = (((List.range m).drop 0).findSome? (rrFrom hs ws)).getD []) := Lib.hid (by rw [hR, hm]; rfl)
  have HN := Lib.hid hn
  have HM := Lib.hid hm
  have H8 := Lib.hid h8
  clear h hu r0 r1 r2 hV hy hn hm hR h8
  go_enter Try.func22, Try.ntmps22
  go_wp2_with fail
  rw [← HVV.out, ← HY.out]
  clear HVV
  go_loopw [5] (fun vf wr => ∃ f : Nat, f ≤ m ∧ vf = .int .i64 (f : Nat) ∧ Hid (Below V.heap.size V wr) ∧ Hid (R = (((List.range m).drop f).findSome? (rrFrom hs ws)).getD [])) (fun vf _ => m - (intOf vf).toNat)
  case atStart => exact ⟨0, Nat.zero_le _, rfl, Lib.hid (Below.refl _ _), HR⟩
  case round =>
    obtain ⟨wo, rfl⟩ : ∃ wo : World, wo = wr := ⟨_, rfl⟩
    obtain ⟨f, hf, rfl, HC, HQ⟩ := hrel
    clear HR
    by_cases hlt : f < m
    · have hfr : (List.range m).drop f = f :: (List.range m).drop (f + 1) := by
        rw [List.drop_eq_getElem_cons (by simpa using hlt)]
        simp
      have HQ1 := HQ.out
      rw [hfr, List.findSome?_cons] at HQ1
      obtain ⟨Q, hQ⟩ : ∃ Q, Q = rrFrom hs ws f := ⟨_, rfl⟩
      rw [← hQ] at HQ1
      have HQN : Hid (Q = none → R = (((List.range m).drop (f + 1)).findSome? (rrFrom hs ws)).getD []) := Lib.hid (fun e => by rw [e] at HQ1; exact HQ1)
      have HQS : Hid (∀ r, Q = some r → R = r) := Lib.hid (fun r e => by rw [e] at HQ1; exact HQ1)
      have HQQ : Hid (rrM hs ws f m f [(f : Int)] = Q) := Lib.hid (by rw [hQ, HM.out]; rfl)
      clear hQ HQ1 hfr HQ
      have hbl : Below V.heap.size V (wo.alloc (.cells #[.int .i64 (f : Nat)] 3)) := HC.out.alloc HC.out.size _
      have hol := OwnN.lit1 wo V.heap.size HC.out.size (f : Nat)
      go_upto_region 6 with fail
      generalize wo.alloc (.cells #[.int .i64 (f : Nat)] 3) = X at hbl hol ⊢
      obtain ⟨z, hz⟩ : ∃ z, z = wo.heap.size := ⟨_, rfl⟩
      rw [← hz] at hol ⊢
      have HC1 := Lib.hid hbl
      have HO1 := Lib.hid hol
      clear hbl hol hz HC
      go_loopw [6, 7] (fun vo va wr => ∃ (t : Nat) (acc : List Int), va = .int .i64 (t : Nat) ∧ t < m ∧ Hid (1 ≤ acc.length ∧ acc.length ≤ m + 1) ∧ Hid (OwnN wr V.heap.size vo acc) ∧ Hid (Below V.heap.size V wr) ∧ Hid (rrM hs ws f (m + 1 - acc.length) t acc = Q)) (fun vo _ _ => m + 2 - sliceLen vo)
      case atStart => exact ⟨f, [(f : Int)], rfl, hlt, Lib.hid ⟨by simp, by simp⟩, HO1, HC1, HQQ⟩
      case round =>
        clear HO1 HC1 HQQ
        obtain ⟨wi, rfl⟩ : ∃ wi : World, wi = wr := ⟨_, rfl⟩
        obtain ⟨t, acc, rfl, ht, HAC, HO, HC, HQ⟩ := hrel
        obtain ⟨al, hal⟩ : ∃ al, al = acc.length := ⟨_, rfl⟩
        obtain ⟨Ao, co, rfl⟩ := HO.out.form_n hal.symm
        have ha1 : 1 ≤ al ∧ al ≤ m + 1 := by have := HAC.out; omega
        have HAL := Lib.hid hal
        rw [← hal] at HQ
        clear hal
        by_cases hle : al ≤ m
        · have HQ1 := HQ.out
          rw [show m + 1 - al = (m - al) + 1 from by omega, rrM] at HQ1
          have htw : t < ws.length := by rw [← HM.out]; exact ht
          have HYW := Lib.hid (HB.out.trans (HC.out.mono (Nat.le_of_lt HVS.out)))
          obtain ⟨b, off, rfl, hcell⟩ := (HU.out wi HYW.out).at htw
          have hbl := World.block_lt_of_cell? _ _ hcell
          have hnx : nxt hs ws (t : Int) = holdM hs ws[t] := by unfold nxt; rw [Int.toNat_natCast, List.getD_eq_getElem?_getD, List.getElem?_eq_getElem htw]; rfl
          rw [hnx] at HQ1
          obtain ⟨l, hl⟩ : ∃ l, l = ws[t] := ⟨_, rfl⟩
          rw [← hl] at hcell HQ1
          have HH := rholder_any (w := wi.drew) (HL.out wi.drew (HYW.out.trans (show Below y wi wi.drew from ⟨rfl, rfl, rfl, Nat.le_refl _, fun _ _ => rfl⟩))) H8.out l
          unfold RHold at HH
          obtain ⟨q, hq⟩ : ∃ q, q = holdM hs l := ⟨_, rfl⟩
          rw [← hq] at HH HQ1
          have HH := Lib.hid HH
          have HQ2 := Lib.hid HQ1
          have hyc := (HC.out.cell (p := ⟨y, 0, none⟩) HVS.out).trans HBX.out
          have hyl : y < wi.heap.size := Nat.lt_of_lt_of_le HVS.out HC.out.size
          clear hl hq hnx HQ HQ1 htw
          go_wp2_with fail
          go_still_tail 5, (by kernel_rfl)
          change wpList _ _ _ _ _ wi.drew
          go_wp2_with fail
          refine HH.out.mono ?_
          rintro e w5 ⟨rfl, hb5⟩
          have HC5 := Lib.hid (show Below V.heap.size V w5 from (HC.out.trans (show Below V.heap.size wi wi.drew from ⟨rfl, rfl, rfl, Nat.le_refl _, fun _ _ => rfl⟩)).trans (hb5.mono HC.out.size))
          have HO5 := Lib.hid (show OwnN w5 V.heap.size (.slice Ao al co) acc from HO.out.keep fun b hb => (hb5.block b (HO.out.lt hb).2))
          have HS5 := Lib.hid hb5.size
          clear hb5 HH HC HO hyc hcell hbl hyl HYW
          by_cases hqf : q = (f : Int)
          · have HE := Lib.hid (HQS.out acc (by rw [← HQ2.out, if_pos hqf]))
            rw [hqf]
            clear HQ2 hqf
            go_wp2_with fail
            go_ret
            exact ⟨_, rfl, by rw [HE.out, ← HY.out]; exact HO5.out.mono (Nat.le_of_lt HVS.out), by rw [← HY.out]; exact HB.out.trans (HC5.out.mono (Nat.le_of_lt HVS.out))⟩
          · by_cases hqo : q < (f : Int) ∨ (m : Int) ≤ q
            · have HE := Lib.hid (HQN.out (by rw [← HQ2.out, if_neg hqf, HM.out.symm, if_pos hqo]))
              clear HQ2
              by_cases hq1 : q < (f : Int)
              · clear hqo
                go_wp2_with fail
                go_roundw
                case rel => exact ⟨f + 1, by omega, by go_num, HC5, HE⟩
                case measure => simp [intOf]; omega
              · have hq2 : (m : Int) ≤ q := by omega
                clear hqo
                go_wp2_with fail
                go_roundw
                case rel => exact ⟨f + 1, by omega, by go_num, HC5, HE⟩
                case measure => simp [intOf]; omega
            · have HE := HQ2.out
              rw [if_neg hqf, HM.out.symm, if_neg hqo] at HE
              have HE := Lib.hid HE
              have hq1 : ¬ q < (f : Int) := by omega
              obtain ⟨qn, rfl⟩ : ∃ qn : Nat, q = qn := ⟨q.toNat, by omega⟩
              have hq2 : ¬ m ≤ qn := by omega
              have HLEN : Hid (acc.length ≤ 1000000) := Lib.hid (by have := HAL.out; omega)
              have hsz : V.heap.size ≤ w5.heap.size := HC5.out.size
              clear hqo HQ2
              go_wp2_with (first | (at_builtin; go_loud (refine wpList_app rfl _ _ rfl V.heap.size _ acc rfl (w := w5) (qn : Nat) rfl HO5.out HLEN.out 1 rfl hsz ?_; go_loud (intro v4 w4 o4 c4 n4; obtain ⟨A4, c5, hv4⟩ := o4.form_n (show (acc ++ [((qn : Nat) : Int)]).length = al + 1 by rw [List.length_append, HAL.out]; rfl); subst hv4))))
              go_roundw
              case rel => exact ⟨qn, acc ++ [((qn : Nat) : Int)], rfl, by omega, Lib.hid (by rw [List.length_append, ← HAL.out]; simp; omega), Lib.hid o4, Lib.hid (HC5.out.trans c4.bel), Lib.hid (by
                rw [List.length_append, ← HAL.out, show m + 1 - (al + [((qn : Nat) : Int)].length) = m - al from by simp]
                exact HE.out)⟩
              case measure => simp [sliceLen]; omega
        · have HE := Lib.hid (HQN.out (by rw [← HQ.out, show m + 1 - al = 0 from by omega]; rfl))
          clear HQ
          go_wp2_with fail
          go_roundw
          case rel => exact ⟨f + 1, by omega, by go_num, HC, HE⟩
          case measure => simp [intOf]; omega
    · obtain rfl : m = f := by omega
      have HE : Hid (R = []) := Lib.hid (by rw [HQ.out, List.drop_of_length_le (by simp)]; rfl)
      clear HQ
      go_wp2
      go_ret
      exact ⟨_, rfl, by rw [HE.out]; exact OwnN.nil _ _, by rw [← HY.out]; exact HB.out.trans (HC.out.mono (Nat.le_of_lt HVS.out))⟩

end Go.Proofs.Ytpdihmlilbccjaa
