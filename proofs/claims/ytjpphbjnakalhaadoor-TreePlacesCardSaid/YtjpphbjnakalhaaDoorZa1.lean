/- Ui -/
import Derived.Test.YtjpphbjnakalhaaDoorZa2
import Derived.IntWalk
import Derived.StillTailTactics
set_option linter.unusedVariables false
namespace Go.Proofs.YtjpphbjnakalhaaDoor
open Go.RowKit
def Weighbs (w0 : World) (B : Nat) (ss : List Sm) (v : Value) : Prop :=
  ∀ (most deep : Int) (w : World), Below B w0 w → B ≤ w.heap.size → 0 ≤ most → most ≤ 100000 → 0 ≤ deep → deep ≤ 100000 →
    Calls Tryd.prog 10 #[v, .int .i64 most, .int .i64 deep] w (WeighPost w (weighB ss most deep)) ∧ 0 ≤ weighB ss most deep ∧ weighB ss most deep ≤ most + 562949953421312
theorem drop_sm {ss : List Sm} {j : Nat} (h : j < ss.length) : ss.drop j = ss[j] :: ss.drop (j + 1) := List.drop_eq_getElem_cons h
def FitsS (most deep : Int) (s : Sm) : Prop := s.name.length ≤ 140737488355328 ∧ s.type.length ≤ 140737488355328 ∧
  (∀ (j : Nat) (hj : j < s.exprs.length) (m : Int), 0 ≤ m → m ≤ most → 0 ≤ weigh s.exprs[j] m (61 - 1) ∧ weigh s.exprs[j] m (61 - 1) ≤ m + 140737488355330) ∧
  (∀ m : Int, 0 ≤ m → m ≤ most → 0 ≤ weighB s.body m (deep - 1) ∧ weighB s.body m (deep - 1) ≤ m + 562949953421312) ∧
  (∀ m : Int, 0 ≤ m → m ≤ most → 0 ≤ weighB s.els m (deep - 1) ∧ weighB s.els m (deep - 1) ≤ m + 562949953421312)
theorem goS_bound {s : Sm} {n most deep : Int} (h : FitsS most deep s) (h0 : 0 ≤ n) (hn : n ≤ most) (hm : most ≤ 100000) : 0 ≤ goS s n most deep ∧ goS s n most deep ≤ most + 562949953421312 := by
  obtain ⟨h1, h2, h3, h4, h5⟩ := h
  obtain ⟨n2, hn2⟩ : ∃ n2, n2 = weighs s.exprs (n + (1 + (s.name.length : Int) + (s.type.length : Int))) most 61 := ⟨_, rfl⟩
  obtain ⟨n3, hn3⟩ : ∃ n3, n3 = if n2 ≤ most then n2 + weighB s.body (most - n2) (deep - 1) else n2 := ⟨_, rfl⟩
  rw [goS_eq s n most deep hn2 hn3]
  obtain ⟨b0, b1⟩ := weighs_bound (most := most) (deep := 61) (K := 562949953421312) (by omega) s.exprs (n + (1 + (s.name.length : Int) + (s.type.length : Int))) h3 (by omega) (by omega)
  rw [← hn2] at b0 b1
  have b3 : 0 ≤ n3 ∧ n3 ≤ most + 562949953421312 := by
    rw [hn3]
    split
    · rename_i hle
      have := h4 (most - n2) (by omega) (by omega)
      omega
    · omega
  split
  · rename_i hle
    have := h5 (most - n3) (by omega) (by omega)
    omega
  · exact b3
theorem goB_bound {most deep : Int} (hm : most ≤ 100000) : ∀ (ss : List Sm) (n : Int), (∀ (j : Nat) (hj : j < ss.length), FitsS most deep ss[j]) → 0 ≤ n → n ≤ most + 562949953421312 → 0 ≤ goB ss n most deep ∧ goB ss n most deep ≤ most + 562949953421312
  | [], n, _, h0, h1 => by rw [goB]; exact ⟨h0, h1⟩
  | s :: ss, n, h, h0, h1 => by
    rw [goB]
    split
    · rename_i hle
      obtain ⟨a, b⟩ := goS_bound (h 0 (by simp)) h0 hle hm
      have a' : 0 ≤ goS s n most deep := a
      have b' : goS s n most deep ≤ most + 562949953421312 := b
      exact goB_bound hm ss _ (fun j hj => h (j + 1) (by simpa using hj)) a' b'
    · exact ⟨h0, h1⟩
set_option maxHeartbeats 4000000 in
set_option maxRecDepth 100000 in
theorem weighb_any {w0 : World} {B : Nat} {ss : List Sm} {v : Value} (h : IsSms w0 (· < B) ss v) : Weighbs w0 B ss v := by
  induction h with
  | mk ss A c fe fb fl hc hM hA he hbd hel ihb ihl =>
    intro most deep w hb hB hm0 hm hd0 hd
    have hwb : weighB ss most deep = if deep = 0 ∧ 0 < ss.length then most + 1 else goB ss 0 most deep := rfl
    have HE := Lib.hid (fun k hk => weigh_at (he k hk))
    have HIB := Lib.hid ihb
    have HIL := Lib.hid ihl
    have HHA := Lib.hid hA
    have HBD := Lib.hid hbd
    have HEL := Lib.hid hel
    clear ihb ihl hA he hbd hel
    have hfit : 0 < deep → ∀ (j : Nat) (hj : j < ss.length), FitsS most deep ss[j] := fun hdp j hj => by
      obtain ⟨b, off, _, _, h1, h2, _⟩ := HHA.out j hj
      obtain ⟨A1, c1, _, _, _, hw⟩ := HE.out j hj
      refine ⟨h1, h2, fun i hi m h3 h4 => ?_, fun m h3 h4 => ?_, fun m h3 h4 => ?_⟩
      · obtain ⟨_, _, _, _, _, _, _, _, _, _, _, _, _, _, hcall⟩ := hw i hi
        exact (hcall m (61 - 1) w hb hB h3 (by omega) (by omega) (by omega)).2
      · exact (HIB.out j hj m (deep - 1) w hb hB h3 (by omega) (by omega) (by omega)).2
      · exact (HIL.out j hj m (deep - 1) w hb hB h3 (by omega) (by omega) (by omega)).2
    have hbound : 0 ≤ weighB ss most deep ∧ weighB ss most deep ≤ most + 562949953421312 := by
      rw [hwb]
      split
      · omega
      · rename_i hne
        by_cases hdp : 0 < deep
        · exact goB_bound hm ss 0 (hfit hdp) (Int.le_refl _) (by omega)
        · have : ss = [] := by
            cases ss with
            | nil => rfl
            | cons s ss => exact absurd ⟨by omega, by simp⟩ hne
          subst this
          rw [goB]
          omega
    refine ⟨?_, hbound⟩
    have HFIT := Lib.hid hfit
    clear hbound hfit
    obtain ⟨ns, hns⟩ : ∃ ns, ns = ss.length := ⟨_, rfl⟩
    rw [← hns] at hc hwb ⊢
    have HNS := Lib.hid hns
    have HWB := Lib.hid hwb
    have HB0 := Lib.hid hb
    clear hns hwb hb
    by_cases h00 : deep = 0 ∧ 0 < ns
    · obtain ⟨rfl, hpos⟩ := h00
      have hp1 : decide (0 < ns) = true := by simpa using hpos
      have HW1 : Hid (weighB ss most 0 = most + 1) := Lib.hid (by rw [HWB.out, if_pos ⟨rfl, hpos⟩])
      clear HWB
      go_enter Tryd.func10, Tryd.ntmps10
      go_wp2
      go_ret
      exact ⟨ret_int HW1.out.symm, Below.refl _ _⟩
    have HW2 : Hid (weighB ss most deep = goB ss 0 most deep) := Lib.hid (by rw [HWB.out, if_neg h00])
    clear HWB
    by_cases hdz : deep = 0
    · subst hdz
      obtain rfl : ns = 0 := by
        rcases Nat.eq_zero_or_pos ns with h | h
        · exact h
        · exact absurd ⟨rfl, h⟩ h00
      obtain rfl : ss = [] := List.eq_nil_of_length_eq_zero HNS.out.symm
      have HWS : Hid (goB [] 0 most 0 = 0) := Lib.hid (by rw [goB])
      clear HHA HE HIB HIL HBD HEL HFIT HNS h00
      go_enter Tryd.func10, Tryd.ntmps10
      go_wp2
      go_loop [7, 8] (fun n i => i = .int .i64 0 ∧ n = .int .i64 0) (fun _ _ => 0)
      case atStart => exact ⟨rfl, rfl⟩
      case round =>
        obtain ⟨rfl, rfl⟩ := hrel
        go_wp2
        go_ret
        exact ⟨ret_int (by rw [HW2.out, HWS.out]), Below.refl _ _⟩
    have hdp : 0 < deep := by omega
    clear h00 hdz
    go_enter Tryd.func10, Tryd.ntmps10
    go_wp2
    go_loopw [7, 8] (fun n i wr => ∃ (j : Nat) (nn : Int), j ≤ ns ∧ i = .int .i64 j ∧ n = .int .i64 nn ∧ 0 ≤ nn ∧ nn ≤ 562949953521312 ∧ Hid (goB (ss.drop j) nn most deep = goB ss 0 most deep) ∧ Hid (Below w.heap.size w wr)) (fun _ i _ => ns - (intOf i).toNat)
    case atStart => exact ⟨0, 0, Nat.zero_le _, rfl, rfl, by omega, by omega, Lib.hid rfl, Lib.hid (Below.refl _ _)⟩
    case round =>
      obtain ⟨wo, rfl⟩ : ∃ wo : World, wo = wr := ⟨_, rfl⟩
      obtain ⟨j, nn, hj, rfl, rfl, hn0, hn1, HGO, HBL⟩ := hrel
      by_cases hlt : j < ns
      · by_cases hle : nn ≤ most
        · have hje : j < ss.length := by rw [← HNS.out]; exact hlt
          obtain ⟨b, off, rfl, hbB, hnm, hty, p0, p1, p2, p3, p4, p5, p6⟩ := HHA.out j hje
          obtain ⟨A1, c1, hf1, hc1, hM1, hweigh⟩ := HE.out j hje
          obtain ⟨A2, c2, hf2, hc2, hM2⟩ := (HBD.out j hje).slice
          obtain ⟨A3, c3, hf3, hc3, hM3⟩ := (HEL.out j hje).slice
          have HFJ := Lib.hid (HFIT.out hdp j hje)
          have hib := HIB.out j hje
          have hil := HIL.out j hje
          have hdr := drop_sm hje
          rw [hf1] at p4
          rw [hf2] at p5 hib
          rw [hf3] at p6 hil
          obtain ⟨Y, hY⟩ : ∃ Y, Y = ss[j] := ⟨_, rfl⟩
          rw [← hY] at p2 p3 p4 p5 p6 hnm hty hc1 hc2 hc3 hib hil hdr HFJ hweigh
          have hbw : Below B w0 wo := HB0.out.trans (HBL.out.mono hB)
          have hsx : B ≤ wo.heap.size := by have := HBL.out.size; omega
          have HGO2 : Hid (goB (ss.drop (j + 1)) (goS Y nn most deep) most deep = goB ss 0 most deep) := Lib.hid (by
            have := HGO.out
            rw [hdr, goB_go hle] at this
            exact this)
          obtain ⟨g0, g1⟩ := goS_bound HFJ.out hn0 hle hm
          have r2 := (hbw.cell (p := ⟨b, off + j * 7 + 2, none⟩) hbB).trans p2
          have r3 := (hbw.cell (p := ⟨b, off + j * 7 + 3, none⟩) hbB).trans p3
          have r4 := (hbw.cell (p := ⟨b, off + j * 7 + 4, none⟩) hbB).trans p4
          have r5 := (hbw.cell (p := ⟨b, off + j * 7 + 5, none⟩) hbB).trans p5
          have r6 := (hbw.cell (p := ⟨b, off + j * 7 + 6, none⟩) hbB).trans p6
          have r0 : ∃ u, wo.cell? ⟨b, off + j * 7, none⟩ = some u := ⟨_, (hbw.cell (p := ⟨b, off + j * 7, none⟩) hbB).trans p0⟩
          obtain ⟨u0, r0⟩ := r0
          obtain ⟨nl, hnl⟩ : ∃ nl, nl = Y.name.length := ⟨_, rfl⟩
          obtain ⟨tl, htl⟩ : ∃ tl, tl = Y.type.length := ⟨_, rfl⟩
          obtain ⟨n1, hn1'⟩ : ∃ n1, n1 = Y.exprs.length := ⟨_, rfl⟩
          obtain ⟨m2, hm2⟩ : ∃ m2, m2 = Y.body.length := ⟨_, rfl⟩
          obtain ⟨m3, hm3⟩ : ∃ m3, m3 = Y.els.length := ⟨_, rfl⟩
          obtain ⟨sn, hsn⟩ : ∃ sn, sn = strOf Y.name := ⟨_, rfl⟩
          obtain ⟨st, hst⟩ : ∃ st, st = strOf Y.type := ⟨_, rfl⟩
          have z1 : sn.size = nl := by rw [hsn, Lib.size_eq, strOf_data, hnl]
          have z2 : st.size = tl := by rw [hst, Lib.size_eq, strOf_data, htl]
          rw [← hsn] at r2
          rw [← hst] at r3
          rw [← hn1'] at r4 hc1
          rw [← hm2] at r5 hc2 hib
          rw [← hm3] at r6 hc3 hil
          rw [← hnl] at hnm
          rw [← htl] at hty
          obtain ⟨X2, hX2⟩ : ∃ X2 : Int, X2 = weighs Y.exprs (nn + (1 + (nl : Int) + (tl : Int))) most 61 := ⟨_, rfl⟩
          obtain ⟨X3, hX3⟩ : ∃ X3 : Int, X3 = if X2 ≤ most then X2 + weighB Y.body (most - X2) (deep - 1) else X2 := ⟨_, rfl⟩
          have hgs := goS_eq Y nn most deep (n2 := X2) (n3 := X3) (by rw [hX2, hnl, htl]) hX3
          have HX2 := Lib.hid hX2
          have HX3 := Lib.hid hX3
          have HGS := Lib.hid hgs
          have HN1 := Lib.hid hn1'
          have HW := Lib.hid hweigh
          have HIBJ := Lib.hid hib
          have HILJ := Lib.hid hil
          have hx2b : 0 ≤ X2 ∧ X2 ≤ most + 562949953421312 := by
            rw [hX2]
            exact weighs_bound (most := most) (deep := 61) (K := 562949953421312) (by omega) Y.exprs _ HFJ.out.2.2.1 (by omega) (by omega)
          have hx3b : X2 ≤ most → 0 ≤ X3 ∧ X3 ≤ most + 562949953421312 := fun h => by
            rw [hX3, if_pos h]
            have := HFJ.out.2.2.2.1 (most - X2) (by omega) (by omega)
            omega
          have HX3B := Lib.hid hx3b
          have q1 : -9223372036854775808 ≤ 1 + (nl : Int) ∧ 1 + (nl : Int) ≤ 9223372036854775807 := by omega
          have q2 : -9223372036854775808 ≤ 1 + (nl : Int) + (tl : Int) ∧ 1 + (nl : Int) + (tl : Int) ≤ 9223372036854775807 := by omega
          have q3 : -9223372036854775808 ≤ nn + (1 + (nl : Int) + (tl : Int)) ∧ nn + (1 + (nl : Int) + (tl : Int)) ≤ 9223372036854775807 := by omega
          have y1 := IntWalk.i64_in _ q1
          have y2 := IntWalk.i64_in _ q2
          have y3 := IntWalk.i64_in _ q3
          have hx20 := hx2b.1
          have hx21 := hx2b.2
          clear q1 q2 q3 hx2b hx3b hX2 hX3 hgs hweigh hib hil hdr hnl htl hn1' hm2 hm3 hsn hst hY hf1 hf2 hf3 p0 p1 p2 p3 p4 p5 p6 HHA HE HIB HIL HBD HEL HFIT
          go_wp2
          go_quiet (fail)
          clear y1 y2 y3
          generalize hwq : wo.drewN _ = wq
          have hdq : Drawn wo wq := ⟨_, hwq.symm⟩
          have hb0 : Below wo.heap.size wo wq := hdq.below
          have HB00 := Lib.hid hb0
          clear hwq hdq hb0
          go_wp2
          go_loopw [7, 9] (fun n i wr => ∃ (kk : Nat) (mm : Int), kk ≤ n1 ∧ i = .int .i64 kk ∧ n = .int .i64 mm ∧ 0 ≤ mm ∧ mm ≤ 562949953521312 ∧ Hid (weighs (Y.exprs.drop kk) mm most 61 = X2) ∧ Hid (Below wo.heap.size wo wr)) (fun _ i _ => n1 - (intOf i).toNat)
          case atStart => exact ⟨0, _, Nat.zero_le _, rfl, rfl, by omega, by omega, Lib.hid HX2.out.symm, HB00⟩
          case round =>
            obtain ⟨wi, rfl⟩ : ∃ wi : World, wi = wr := ⟨_, rfl⟩
            obtain ⟨kk, mm, hkk, rfl, rfl, hmm0, hmm1, HWI, HBI⟩ := hrel
            have hbo : b < wo.heap.size := by omega
            have t0 := (HBI.out.cell (p := ⟨b, off + j * 7, none⟩) hbo).trans r0
            have t4 := (HBI.out.cell (p := ⟨b, off + j * 7 + 4, none⟩) hbo).trans r4
            have t5 := (HBI.out.cell (p := ⟨b, off + j * 7 + 5, none⟩) hbo).trans r5
            have t6 := (HBI.out.cell (p := ⟨b, off + j * 7 + 6, none⟩) hbo).trans r6
            have hsi : wo.heap.size ≤ wi.heap.size := HBI.out.size
            have hsw : w.heap.size ≤ wo.heap.size := HBL.out.size
            have hbi : Below B w0 wi := hbw.trans (HBI.out.mono hsx)
            clear r0 r2 r3 r4 r5 r6
            by_cases hgo : kk < n1 ∧ mm ≤ most
            · obtain ⟨hkl, hml⟩ := hgo
              have hke : kk < Y.exprs.length := by rw [← HN1.out]; exact hkl
              obtain ⟨b', off', yk, yp, yn, ys, yv, rfl, hbB', p0, p1, p2, p3, p4, hcall⟩ := HW.out kk hke
              obtain ⟨hcc, hy0, hy1⟩ := hcall (most - mm) 60 wi hbi (by omega) (by omega) (by omega) (by omega) (by omega)
              have s0 := (hbi.cell (p := ⟨b', off' + kk * 5, none⟩) hbB').trans p0
              have s1 := (hbi.cell (p := ⟨b', off' + kk * 5 + 1, none⟩) hbB').trans p1
              have s2 := (hbi.cell (p := ⟨b', off' + kk * 5 + 2, none⟩) hbB').trans p2
              have s3 := (hbi.cell (p := ⟨b', off' + kk * 5 + 3, none⟩) hbB').trans p3
              have s4 := (hbi.cell (p := ⟨b', off' + kk * 5 + 4, none⟩) hbB').trans p4
              have hdr := drop_ex hke
              obtain ⟨yw, hyw⟩ : ∃ x, x = weigh Y.exprs[kk] (most - mm) 60 := ⟨_, rfl⟩
              have HWN : Hid (weighs (Y.exprs.drop (kk + 1)) (mm + yw) most 61 = X2) := Lib.hid (by
                have := HWI.out
                rw [hdr, weighs_go hml] at this
                rw [hyw]
                exact this)
              rw [← hyw] at hcc hy0 hy1
              have HCC := Lib.hid hcc
              clear hcc hdr hyw hcall p0 p1 p2 p3 p4 HW
              go_wp2_with (first
                | ((with_reducible refine HCC.out.mono ?_); rintro e w5 ⟨rfl, hb5⟩))
              have hs5 := hb5.size
              go_roundw
              case rel => exact ⟨kk + 1, mm + yw, by omega, by go_num, rfl, by omega, by omega, HWN, Lib.hid (HBI.out.trans (hb5.mono (by omega)))⟩
              case measure => simp [intOf]; omega
            · obtain rfl : mm = X2 := by
                have hw := HWI.out
                by_cases hkl : kk < n1
                · rw [weighs_stop _ _ _ _ (fun h => hgo ⟨hkl, h⟩)] at hw; exact hw
                · rw [List.drop_of_length_le (by rw [← HN1.out]; omega), weighs] at hw; exact hw
              have hcase : (kk < n1 ∧ ¬ mm ≤ most) ∨ kk = n1 := by
                rcases Nat.lt_or_ge kk n1 with h | h
                · exact .inl ⟨h, fun h2 => hgo ⟨h, h2⟩⟩
                · exact .inr (by omega)
              clear hgo HW HWI
              by_cases hle2 : mm ≤ most
              · have hkn : kk = n1 := by
                  rcases hcase with h | h
                  · exact absurd hle2 h.2
                  · exact h
                clear hcase
                obtain ⟨hcb, hyb0, hyb1⟩ := HIBJ.out (most - mm) (deep - 1) wi hbi (by omega) (by omega) (by omega) (by omega) (by omega)
                obtain ⟨yb, hyb⟩ : ∃ x, x = weighB Y.body (most - mm) (deep - 1) := ⟨_, rfl⟩
                have hx3 : X3 = mm + yb := by rw [HX3.out, if_pos hle2, hyb]
                rw [← hyb] at hcb hyb0 hyb1
                have HCB := Lib.hid hcb
                have HX3E := Lib.hid hx3
                clear hcb hyb hx3
                by_cases hle3 : mm + yb ≤ most
                · go_wp2_with fail
                  refine HCB.out.mono ?_
                  rintro e w5 ⟨rfl, hb5⟩
                  have t6' := (hb5.cell (p := ⟨b, off + j * 7 + 6, none⟩) (by simp; omega)).trans t6
                  have t0' := (hb5.cell (p := ⟨b, off + j * 7, none⟩) (by simp; omega)).trans t0
                  have hs5 := hb5.size
                  have hb5' := hbi.trans (hb5.mono (show B ≤ wi.heap.size by omega))
                  obtain ⟨hcl, hyl0, hyl1⟩ := HILJ.out (most - (mm + yb)) (deep - 1) w5 hb5' (by omega) (by omega) (by omega) (by omega) (by omega)
                  obtain ⟨yl, hyl⟩ : ∃ x, x = weighB Y.els (most - (mm + yb)) (deep - 1) := ⟨_, rfl⟩
                  have HG4 : Hid (goS Y nn most deep = mm + yb + yl) := Lib.hid (by rw [HGS.out, HX3E.out, if_pos hle3, hyl])
                  rw [← hyl] at hcl hyl0 hyl1
                  have HCL := Lib.hid hcl
                  have HB5 := Lib.hid (HBI.out.trans (hb5.mono hsi))
                  clear hcl hyl hb5 hb5'
                  go_wp2_with (first
                    | ((with_reducible refine HCL.out.mono ?_); rintro e w6 ⟨rfl, hb6⟩))
                  have hs6 := hb6.size
                  go_roundw
                  case rel => exact ⟨j + 1, mm + yb + yl, by omega, by go_num, rfl, by omega, by omega, Lib.hid (by rw [← HG4.out]; exact HGO2.out), Lib.hid ((HBL.out.trans (HB5.out.mono (by omega))).trans (hb6.mono (by omega)))⟩
                  case measure => simp [intOf]; omega
                · have HG4 : Hid (goS Y nn most deep = mm + yb) := Lib.hid (by rw [HGS.out, HX3E.out, if_neg hle3])
                  go_wp2_with (first
                    | ((with_reducible refine HCB.out.mono ?_); rintro e w5 ⟨rfl, hb5⟩))
                  have hs5 := hb5.size
                  go_roundw
                  case rel => exact ⟨j + 1, mm + yb, by omega, by go_num, rfl, by omega, by omega, Lib.hid (by rw [← HG4.out]; exact HGO2.out), Lib.hid ((HBL.out.trans (HBI.out.mono (by omega))).trans (hb5.mono (by omega)))⟩
                  case measure => simp [intOf]; omega
              · have HG4 : Hid (goS Y nn most deep = mm) := Lib.hid (by
                  have hx3 : X3 = mm := by rw [HX3.out, if_neg hle2]
                  rw [HGS.out, hx3, if_neg hle2])
                rcases hcase with ⟨h, h'⟩ | h
                all_goals
                  go_wp2
                  go_roundw
                  case rel => exact ⟨j + 1, mm, by omega, by go_num, rfl, by omega, by omega, Lib.hid (by rw [← HG4.out]; exact HGO2.out), Lib.hid (HBL.out.trans (HBI.out.mono (by omega)))⟩
                  case measure => simp [intOf]; omega
        · have HWS : Hid (nn = goB ss 0 most deep) := Lib.hid (by have := HGO.out; rw [goB_stop _ _ _ _ hle] at this; exact this)
          clear HHA HE HIB HIL HBD HEL HFIT
          go_wp2
          go_ret
          exact ⟨ret_int (by rw [HW2.out]; exact HWS.out), HBL.out⟩
      · have hje : j = ns := by omega
        have HWS : Hid (nn = goB ss 0 most deep) := Lib.hid (by
          have := HGO.out
          rw [List.drop_of_length_le (by rw [hje, HNS.out]; exact Nat.le_refl _), goB] at this
          exact this)
        clear HHA HE HIB HIL HBD HEL HFIT hje
        go_wp2
        go_ret
        exact ⟨ret_int (by rw [HW2.out]; exact HWS.out), HBL.out⟩
end Go.Proofs.YtjpphbjnakalhaaDoor
