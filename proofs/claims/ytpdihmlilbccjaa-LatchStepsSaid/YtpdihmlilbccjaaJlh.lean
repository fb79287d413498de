/- The walk of LatchHeld. -/
import Derived.Test.YtpdihmlilbccjaaJlg
import Derived.StillTailTactics
import Derived.Deep.Cut
set_option linter.unusedVariables false
set_option linter.unusedSimpArgs false
namespace Go.Proofs.Ytpdihmlilbccjaa
open Go.RowKit

theorem drew_below (w : World) : Below w.heap.size w w.drew := ⟨rfl, rfl, rfl, Nat.le_refl _, fun _ _ => rfl⟩
theorem held_mem (t : Int) : ∀ (xs : List Int) (k : Nat) (m : Int), m ∈ heldFrom t xs k ↔ ∃ j, ∃ h : j < xs.length, xs[j] = t ∧ m = ((k + j : Nat) : Int)
  | [], k, m => by simp [heldFrom]
  | x :: xs, k, m => by
    have ih := held_mem t xs (k + 1) m
    have hs : (∃ j, ∃ h : j < (x :: xs).length, (x :: xs)[j] = t ∧ m = ((k + j : Nat) : Int)) ↔ (x = t ∧ m = (k : Int)) ∨ ∃ j, ∃ h : j < xs.length, xs[j] = t ∧ m = ((k + 1 + j : Nat) : Int) := by
      constructor
      · rintro ⟨j, hj, h1, h2⟩
        cases j with
        | zero => exact .inl ⟨h1, h2⟩
        | succ j => exact .inr ⟨j, by simpa using hj, h1, by rw [h2]; omega⟩
      · rintro (⟨h1, h2⟩ | ⟨j, hj, h1, h2⟩)
        · exact ⟨0, by simp, h1, h2⟩
        · exact ⟨j + 1, by simpa using hj, h1, by rw [h2]; omega⟩
    rw [hs, ← ih, show heldFrom t (x :: xs) k = if x = t then (k : Int) :: heldFrom t xs (k + 1) else heldFrom t xs (k + 1) from rfl]
    split
    · rename_i h1
      simp [h1]
    · rename_i h1
      simp [h1]
theorem held_rise (t : Int) : ∀ (xs : List Int) (k : Nat), (heldFrom t xs k).Pairwise (· < ·)
  | [], _ => by simp [heldFrom]
  | x :: xs, k => by
    have ih := held_rise t xs (k + 1)
    rw [show heldFrom t (x :: xs) k = if x = t then (k : Int) :: heldFrom t xs (k + 1) else heldFrom t xs (k + 1) from rfl]
    split
    · refine List.pairwise_cons.2 ⟨fun y hy => ?_, ih⟩
      obtain ⟨j, -, -, h2⟩ := (held_mem t xs (k + 1) y).1 hy
      omega
    · exact ih
theorem heldM_rise {hs : List Int} {t : Int} {k : Nat} (hk : k + 1 < (heldM hs t).length) : (heldM hs t)[k] < (heldM hs t)[k + 1] := by
  have : (heldM hs t).Pairwise (· < ·) := by
    unfold heldM
    split
    · simp
    · exact held_rise t hs 0
  exact List.pairwise_iff_getElem.1 this k (k + 1) (by omega) hk (by omega)
theorem heldM_rise2 {hs : List Int} {t : Int} {k : Nat} {x y : Int} (hx : (heldM hs t)[k]? = some x) (hy : (heldM hs t)[k + 1]? = some y) : x < y := by
  obtain ⟨h1, rfl⟩ := List.getElem?_eq_some_iff.1 hx
  obtain ⟨h2, rfl⟩ := List.getElem?_eq_some_iff.1 hy
  exact heldM_rise h2
theorem heldM_len (hs : List Int) (t : Int) : (heldM hs t).length ≤ hs.length := by
  unfold heldM
  split
  · simp
  · exact held_len t hs 0
theorem heldM_any {hs : List Int} {l : Nat} (hl : l < hs.length) (t : Int) : ((heldM hs t).any fun x => x == (l : Int)) = decide (0 ≤ t ∧ hs[l] = t) := by
  unfold heldM
  split
  · rw [decide_eq_false (by omega)]; rfl
  · rename_i h0
    by_cases h : hs[l] = t
    · rw [decide_eq_true ⟨by omega, h⟩, List.any_eq_true]
      exact ⟨(l : Int), (held_mem t hs 0 l).2 ⟨l, hl, h, by simp⟩, by simp⟩
    · rw [decide_eq_false (fun hq => h hq.2), List.any_eq_false]
      intro x hx
      obtain ⟨j, hj, h1, h2⟩ := (held_mem t hs 0 x).1 hx
      simp only [beq_iff_eq]
      intro e
      obtain rfl : j = l := by omega
      exact h h1
theorem any_next {L : List Int} {k : Nat} (hk : k < L.length) (l : Int) : ((L.take (k + 1)).any fun x => x == l) = (((L.take k).any fun x => x == l) || L[k] == l) := by
  rw [List.take_succ_eq_append_getElem hk, List.any_append]
  simp

set_option maxRecDepth 100000 in
set_option maxHeartbeats 4000000 in
theorem held_walk (w : World) (p : Int) (hp : In64 p) (zs : List Cl) (v : Value) (hv : Scr KC w (· < w.heap.size) zs v) :
    Calls Try.prog 6 #[.int .i64 p, v] w fun e w' => e = .returned (.bool true) ∧ Below w.heap.size w w' := by
  obtain ⟨A, cz, rfl, hzc, hz63⟩ := hv.form
  have HAL := Lib.hid (alive_any w)
  have HV := Lib.hid hv
  have HIN := Lib.hid hp
  obtain ⟨n, hn⟩ : ∃ n, n = zs.length := ⟨_, rfl⟩
  rw [← hn] at hzc HV ⊢
  have HN := Lib.hid hn
  clear hv hn hp
  by_cases hbig : 300 < n
  · go_enter Try.func6, Try.ntmps6
    go_wp2_with fail
    refine HAL.out.mono ?_
    rintro e w1 ⟨rfl, hb1⟩
    have HB1 := Lib.hid hb1
    clear hb1
    go_wp2
    go_ret
    exact ⟨rfl, HB1.out⟩
  · have hsm : n ≤ 300 := by omega
    clear hbig
    go_enter Try.func6, Try.ntmps6
    go_wp2_with fail
    refine HAL.out.mono ?_
    rintro e w1 ⟨rfl, hb1⟩
    have HB1 := Lib.hid hb1
    have HNEW := Lib.hid (newLt_any w1 p HIN.out)
    clear hb1 HAL
    go_wp2_with fail
    refine HNEW.out.mono ?_
    rintro e w2 ⟨h, g, c, rfl, X0, hb2⟩
    have HX0 := Lib.hid X0
    have HB2 := Lib.hid (HB1.out.trans (hb2.mono HB1.out.size))
    have HBS := Lib.hid (show w.heap.size ≤ w1.heap.size from HB1.out.size)
    obtain ⟨B, hB⟩ : ∃ B, B = w1.heap.size := ⟨_, rfl⟩
    rw [← hB] at HX0 HBS
    clear X0 hb2 hB HNEW HB1
    go_wp2_with fail
    go_loopw [6] (fun vi wr => ∃ (j : Nat) (hs : List Int), j ≤ n ∧ vi = .int .i64 (j : Nat) ∧ Hid (LtAt wr B h g c hs) ∧ Hid (Below w.heap.size w wr)) (fun vi _ => n - (intOf vi).toNat)
    case atStart => exact ⟨0, _, Nat.zero_le _, rfl, HX0, HB2⟩
    case round =>
      obtain ⟨wo, rfl⟩ : ∃ wo : World, wo = wr := ⟨_, rfl⟩
      obtain ⟨j, hs, hj, rfl, HX, HB⟩ := hrel
      clear HX0 HB2
      by_cases hlt : j < n
      · have hjl : j < zs.length := by rw [← HN.out]; exact hlt
        obtain ⟨gz, off, rfl, hgz, k0, k1, k2, hin⟩ := HV.out.call j hjl
        have c0 := (HB.out.cell (p := ⟨gz, off + j * 3, none⟩) hgz).trans k0
        have c1 := (HB.out.cell (p := ⟨gz, off + j * 3 + 1, none⟩) hgz).trans k1
        have c2 := (HB.out.cell (p := ⟨gz, off + j * 3 + 2, none⟩) hgz).trans k2
        obtain ⟨what, hwhat⟩ : ∃ x, x = zs[j].what := ⟨_, rfl⟩
        obtain ⟨lk, hlk⟩ : ∃ x, x = zs[j].lock := ⟨_, rfl⟩
        obtain ⟨th, hth⟩ : ∃ x, x = zs[j].th := ⟨_, rfl⟩
        have hth64 := hin.th
        rw [← hwhat] at c0
        rw [← hlk] at c1
        rw [← hth] at c2 hth64
        have HXD : LtAt wo.drew B h g c hs := HX.out.keep rfl rfl
        have HPT := Lib.hid (take_any HXD lk th hth64)
        have HPD := Lib.hid (drop_any HXD lk th hth64)
        clear k0 k1 k2 hin hwhat hlk hth hth64 HXD hjl
        by_cases h1 : what = 1
        · rw [h1] at c0
          clear HPD h1
          go_wp2_with fail
          go_still_tail 11, (by kernel_rfl)
          change wpList _ _ _ _ _ wo.drew
          go_wp2_with fail
          refine HPT.out.mono ?_
          rintro e w3 ⟨rfl, X3, C3⟩
          have HX3 := Lib.hid X3
          have HB3 := Lib.hid (HB.out.trans (((drew_below wo).mono HB.out.size).trans (C3.bel.mono HBS.out)))
          clear X3 C3 HPT HX HB c0 c1 c2
          go_wp2_with fail
          go_roundw
          case rel => exact ⟨j + 1, _, by omega, by go_num, HX3, HB3⟩
          case measure => simp [intOf]; omega
        · clear HPT
          go_wp2_with fail
          go_still_tail 11, (by kernel_rfl)
          change wpList _ _ _ _ _ wo.drew
          go_wp2_with fail
          refine HPD.out.mono ?_
          rintro e w3 ⟨rfl, X3, C3⟩
          have HX3 := Lib.hid X3
          have HB3 := Lib.hid (HB.out.trans (((drew_below wo).mono HB.out.size).trans (C3.bel.mono HBS.out)))
          clear X3 C3 HPD HX HB c0 c1 c2
          go_wp2_with fail
          go_roundw
          case rel => exact ⟨j + 1, _, by omega, by go_num, HX3, HB3⟩
          case measure => simp [intOf]; omega
      · obtain rfl : n = j := by omega
        clear hlt
        have HA := Lib.hid (all_any HX.out)
        go_wp2_with fail
        refine HA.out.mono ?_
        rintro e V ⟨va, rfl, ho, hb⟩
        obtain ⟨m, hm⟩ : ∃ m, m = hs.length := ⟨_, rfl⟩
        obtain ⟨Aa, ca, rfl⟩ := ho.form_n hm.symm
        have hm8 : m ≤ 8 := by rw [hm]; exact HX.out.good.len
        have hac : m ≤ ca ∧ ca ≤ 9223372036854775807 := by
          obtain ⟨A', c', e, h1, h2⟩ := ho.lie.form
          cases e
          omega
        have HM := Lib.hid hm
        have HO := Lib.hid ho
        have HXV := Lib.hid (HX.out.below hb)
        have HBV := Lib.hid (HB.out.trans (hb.mono HB.out.size))
        clear HA ho hb hm HX HB
        go_wp2_with fail
        go_loopw [8] (fun vl wr => ∃ l : Nat, l ≤ m ∧ vl = .int .i64 (l : Nat) ∧ Hid (Below V.heap.size V wr)) (fun vl _ => m - (intOf vl).toNat)
        case atStart => exact ⟨0, Nat.zero_le _, rfl, Lib.hid (Below.refl _ _)⟩
        case round =>
          obtain ⟨wo, rfl⟩ : ∃ wo : World, wo = wr := ⟨_, rfl⟩
          obtain ⟨l, hl, rfl, HB⟩ := hrel
          by_cases hlt : l < m
          · have hlh : l < hs.length := by rw [← HM.out]; exact hlt
            obtain ⟨ga, ca', hva, hga1, hga2⟩ := HO.out.some_ (by intro e; rw [e] at hlh; simp at hlh)
            rw [← HM.out] at hva
            cases hva
            have HAT := Lib.hid (HO.out.at hlh)
            have hat := (HB.out.cell (p := ⟨ga, l, none⟩) hga2).trans HAT.out
            have hgl2 : ga < wo.heap.size := Nat.lt_of_lt_of_le hga2 HB.out.size
            have hol : holdM hs (l : Int) = hs[l] := by
              unfold holdM
              rw [if_pos ⟨by omega, by omega⟩, Int.toNat_natCast, List.getD_eq_getElem?_getD, List.getElem?_eq_getElem hlh]
              rfl
            have HAN := fun t => heldM_any hlh t
            obtain ⟨y, hy⟩ : ∃ y, y = hs[l] := ⟨_, rfl⟩
            rw [← hy] at hat hol HAT
            simp only [← hy] at HAN
            have HAN := Lib.hid HAN
            have HH := fun m => holder_any ((HXV.out.below HB.out).drewN m) (l : Int)
            rw [hol] at HH
            have HH : Hid (∀ m, Calls Try.prog 15 #[.pointer (some ⟨h, 0, none⟩), .int .i64 (l : Nat)] (wo.drewN m) fun e w'' => e = .returned (.int .i64 y) ∧ ∃ k, w'' = wo.drewN k) := Lib.hid (fun m => Calls.quiet_of_same ((HH m).mono fun _ _ h => ⟨h.1, h.2.symm⟩))
            clear hol hy
            go_upto_region 18 with fail
            go_quiet (first
              | with_reducible exact HH.out _)
            generalize hwq : wo.drewN nq = wq
            have HBQ : Hid (Below V.heap.size V wq) := Lib.hid (by rw [← hwq]; exact HB.out.trans ((Chg.drawn none _ wo nq).bel.mono HB.out.size))
            clear hwq HH hat HB hgl2
            go_wp2_with fail
            go_loopw [9] (fun vi wr => ∃ i : Nat, i ≤ n ∧ vi = .int .i64 (i : Nat) ∧ Hid (Below V.heap.size V wr)) (fun vi _ => n - (intOf vi).toNat)
            case atStart => exact ⟨0, Nat.zero_le _, rfl, HBQ⟩
            case round =>
              clear HBQ
              obtain ⟨wi, rfl⟩ : ∃ wi : World, wi = wr := ⟨_, rfl⟩
              obtain ⟨i, hi, rfl, HB⟩ := hrel
              by_cases hin : i < n
              · have hil : i < zs.length := by rw [← HN.out]; exact hin
                obtain ⟨gz, off, rfl, hgz, k0, k1, k2, hin2⟩ := HV.out.call i hil
                have c2 := (HB.out.cell (p := ⟨gz, off + i * 3 + 2, none⟩) (Nat.lt_of_lt_of_le hgz HBV.out.size)).trans ((HBV.out.cell (p := ⟨gz, off + i * 3 + 2, none⟩) hgz).trans k2)
                obtain ⟨who, hwho⟩ : ∃ x, x = zs[i].th := ⟨_, rfl⟩
                rw [← hwho] at c2
                obtain ⟨L, HH, HRS, HLM, HAW⟩ : ∃ L : List Int, Hid (Calls Try.prog 18 #[.pointer (some ⟨h, 0, none⟩), .int .i64 who] wi (CopyN wi L)) ∧ Hid (∀ (k : Nat) (x y : Int), L[k]? = some x → L[k + 1]? = some y → x < y) ∧ Hid (L.length ≤ 8) ∧ Hid ((L.any fun x => x == (l : Int)) = decide (0 ≤ who ∧ y = who)) :=
                  ⟨heldM hs who, Lib.hid (held_any (HXV.out.below HB.out) who), Lib.hid (fun k x y hx hy => heldM_rise2 hx hy), Lib.hid (by have := heldM_len hs who; have := HM.out; omega), Lib.hid (HAN.out who)⟩
                clear k0 k1 k2 hin2 hwho hil
                go_wp2_with fail
                refine HH.out.mono ?_
                rintro e w5 ⟨vh, rfl, ho5, hb5⟩
                obtain ⟨ml, hml⟩ : ∃ ml, ml = L.length := ⟨_, rfl⟩
                obtain ⟨Ah, ch, rfl⟩ := ho5.form_n hml.symm
                have hl8 : ml ≤ 8 := by rw [hml]; exact HLM.out
                have hac5 : ml ≤ ch ∧ ch ≤ 9223372036854775807 := by
                  obtain ⟨A', c', e, h1, h2⟩ := ho5.lie.form
                  cases e
                  omega
                have HML := Lib.hid hml
                have HO5 := Lib.hid ho5
                have HB5 := Lib.hid (HB.out.trans (hb5.mono HB.out.size))
                clear ho5 hb5 hml HH c2 HLM HB
                go_wp2_with fail
                go_loopw [12, 13] (fun vb vk wr => ∃ k : Nat, k ≤ ml ∧ vk = .int .i64 (k : Nat) ∧ vb = .bool ((L.take k).any fun x => x == (l : Int)) ∧ Hid (Below w5.heap.size w5 wr)) (fun _ vk _ => ml - (intOf vk).toNat)
                case atStart => exact ⟨0, Nat.zero_le _, rfl, rfl, Lib.hid (Below.refl _ _)⟩
                case round =>
                  obtain ⟨wk, rfl⟩ : ∃ wk : World, wk = wr := ⟨_, rfl⟩
                  obtain ⟨k, hk, rfl, rfl, HB⟩ := hrel
                  by_cases hkl : k < ml
                  · have hkL : k < L.length := by rw [← HML.out]; exact hkl
                    obtain ⟨gh, ch', hvh, hgh1, hgh2⟩ := HO5.out.some_ (by intro e; rw [e] at hkL; simp at hkL)
                    rw [← HML.out] at hvh
                    cases hvh
                    have hck := (HB.out.cell (p := ⟨gh, k, none⟩) hgh2).trans (HO5.out.at hkL)
                    have hghl : gh < wk.heap.size := Nat.lt_of_lt_of_le hgh2 HB.out.size
                    have HNX := Lib.hid (any_next hkL (l : Int))
                    obtain ⟨x, hx⟩ : ∃ x, x = L[k] := ⟨_, rfl⟩
                    obtain ⟨bb, hbb⟩ : ∃ b, b = ((L.take k).any fun x => x == (l : Int)) := ⟨_, rfl⟩
                    rw [← hx] at hck HNX
                    rw [← hbb] at HNX ⊢
                    have HXK : Hid (L[k]? = some x) := Lib.hid (by rw [List.getElem?_eq_getElem hkL, hx])
                    clear hx hbb
                    cases bb with
                    | true =>
                      have HE : Hid (((L.take (k + 1)).any fun x => x == (l : Int)) = true) := Lib.hid (by rw [HNX.out]; rfl)
                      clear HNX
                      cases k with
                      | zero =>
                        try rw [show ((0 : Nat) : Int) = 0 from rfl]
                        go_wp2_with fail
                        go_quiet (fail)
                        generalize hwk : wk.drewN _ = wz
                        have HBK : Hid (Below w5.heap.size w5 wz) := Lib.hid (by rw [← hwk]; exact HB.out.trans ((Chg.drawn none _ wk _).bel.mono HB.out.size))
                        clear hwk HB
                        go_wp2_with fail
                        go_roundw
                        case rel => exact ⟨0 + 1, by omega, by go_num, by rw [HE.out], HBK⟩
                        case measure => simp [intOf]; omega
                      | succ k =>
                        have hkL2 : k < L.length := by omega
                        have hcp := (HB.out.cell (p := ⟨gh, k, none⟩) hgh2).trans (HO5.out.at hkL2)
                        obtain ⟨z, hz⟩ : ∃ z, z = L[k] := ⟨_, rfl⟩
                        rw [← hz] at hcp
                        have hzx : z < x := HRS.out k z x (by rw [List.getElem?_eq_getElem hkL2, hz]) HXK.out
                        have hdz : decide (x ≤ z) = false := decide_eq_false (by omega)
                        clear hz hkL2 HXK
                        go_wp2_with fail
                        go_quiet (fail)
                        generalize hwk : wk.drewN _ = wz
                        have HBK : Hid (Below w5.heap.size w5 wz) := Lib.hid (by rw [← hwk]; exact HB.out.trans ((Chg.drawn none _ wk _).bel.mono HB.out.size))
                        clear hwk HB
                        go_wp2_with fail
                        go_roundw
                        case rel => exact ⟨(k + 1) + 1, by omega, by go_num, by rw [HE.out], HBK⟩
                        case measure => simp [intOf]; omega
                    | false =>
                      by_cases hxl : x = (l : Int)
                      · have HE : Hid (((L.take (k + 1)).any fun x => x == (l : Int)) = true) := Lib.hid (by rw [HNX.out, hxl]; simp)
                        clear HNX
                        cases k with
                        | zero =>
                          try rw [show ((0 : Nat) : Int) = 0 from rfl]
                          go_wp2_with fail
                          go_quiet (fail)
                          generalize hwk : wk.drewN _ = wz
                          have HBK : Hid (Below w5.heap.size w5 wz) := Lib.hid (by rw [← hwk]; exact HB.out.trans ((Chg.drawn none _ wk _).bel.mono HB.out.size))
                          clear hwk HB
                          go_wp2_with fail
                          go_roundw
                          case rel => exact ⟨0 + 1, by omega, by go_num, by rw [HE.out], HBK⟩
                          case measure => simp [intOf]; omega
                        | succ k =>
                          have hkL2 : k < L.length := by omega
                          have hcp := (HB.out.cell (p := ⟨gh, k, none⟩) hgh2).trans (HO5.out.at hkL2)
                          obtain ⟨z, hz⟩ : ∃ z, z = L[k] := ⟨_, rfl⟩
                          rw [← hz] at hcp
                          have hzx : z < x := HRS.out k z x (by rw [List.getElem?_eq_getElem hkL2, hz]) HXK.out
                          have hdz : decide (x ≤ z) = false := decide_eq_false (by omega)
                          clear hz hkL2 HXK
                          go_wp2_with fail
                          go_quiet (fail)
                          generalize hwk : wk.drewN _ = wz
                          have HBK : Hid (Below w5.heap.size w5 wz) := Lib.hid (by rw [← hwk]; exact HB.out.trans ((Chg.drawn none _ wk _).bel.mono HB.out.size))
                          clear hwk HB
                          go_wp2_with fail
                          go_roundw
                          case rel => exact ⟨(k + 1) + 1, by omega, by go_num, by rw [HE.out], HBK⟩
                          case measure => simp [intOf]; omega
                      · have HE : Hid (((L.take (k + 1)).any fun x => x == (l : Int)) = false) := Lib.hid (by rw [HNX.out]; simpa using hxl)
                        clear HNX
                        cases k with
                        | zero =>
                          try rw [show ((0 : Nat) : Int) = 0 from rfl]
                          go_wp2_with fail
                          go_quiet (fail)
                          generalize hwk : wk.drewN _ = wz
                          have HBK : Hid (Below w5.heap.size w5 wz) := Lib.hid (by rw [← hwk]; exact HB.out.trans ((Chg.drawn none _ wk _).bel.mono HB.out.size))
                          clear hwk HB
                          go_wp2_with fail
                          go_roundw
                          case rel => exact ⟨0 + 1, by omega, by go_num, by rw [HE.out]; simpa using hxl, HBK⟩
                          case measure => simp [intOf]; omega
                        | succ k =>
                          have hkL2 : k < L.length := by omega
                          have hcp := (HB.out.cell (p := ⟨gh, k, none⟩) hgh2).trans (HO5.out.at hkL2)
                          obtain ⟨z, hz⟩ : ∃ z, z = L[k] := ⟨_, rfl⟩
                          rw [← hz] at hcp
                          have hzx : z < x := HRS.out k z x (by rw [List.getElem?_eq_getElem hkL2, hz]) HXK.out
                          have hdz : decide (x ≤ z) = false := decide_eq_false (by omega)
                          clear hz hkL2 HXK
                          go_wp2_with fail
                          go_quiet (fail)
                          generalize hwk : wk.drewN _ = wz
                          have HBK : Hid (Below w5.heap.size w5 wz) := Lib.hid (by rw [← hwk]; exact HB.out.trans ((Chg.drawn none _ wk _).bel.mono HB.out.size))
                          clear hwk HB
                          go_wp2_with fail
                          go_roundw
                          case rel => exact ⟨(k + 1) + 1, by omega, by go_num, by rw [HE.out]; simpa using hxl, HBK⟩
                          case measure => simp [intOf]; omega
                  · obtain rfl : ml = k := by omega
                    have HE : Hid (((L.take ml).any fun x => x == (l : Int)) = decide (0 ≤ who ∧ y = who)) := Lib.hid (by rw [List.take_of_length_le (by rw [HML.out]; exact Nat.le_refl _)]; exact HAW.out)
                    have hat := (HB.out.cell (p := ⟨ga, l, none⟩) (Nat.lt_of_lt_of_le hga2 HB5.out.size)).trans ((HB5.out.cell (p := ⟨ga, l, none⟩) hga2).trans HAT.out)
                    have HBF := Lib.hid (HB5.out.trans (HB.out.mono HB5.out.size))
                    clear HB
                    by_cases h0 : 0 ≤ who
                    · by_cases hyw : y = who
                      · rw [show ((L.take ml).any fun x => x == (l : Int)) = true from by rw [HE.out]; exact decide_eq_true ⟨h0, hyw⟩]
                        go_wp2_with fail
                        go_roundw
                        case rel => exact ⟨i + 1, by omega, by go_num, HBF⟩
                        case measure => simp [intOf]; omega
                      · rw [show ((L.take ml).any fun x => x == (l : Int)) = false from by rw [HE.out]; exact decide_eq_false (fun hq => hyw hq.2)]
                        go_wp2_with fail
                        go_roundw
                        case rel => exact ⟨i + 1, by omega, by go_num, HBF⟩
                        case measure => simp [intOf]; omega
                    · rw [show ((L.take ml).any fun x => x == (l : Int)) = false from by rw [HE.out]; exact decide_eq_false (fun hq => h0 hq.1)]
                      go_wp2_with fail
                      go_roundw
                      case rel => exact ⟨i + 1, by omega, by go_num, HBF⟩
                      case measure => simp [intOf]; omega
              · obtain rfl : n = i := by omega
                go_wp2_with fail
                go_roundw
                case rel => exact ⟨l + 1, by omega, by go_num, HB⟩
                case measure => simp [intOf]; omega
          · obtain rfl : m = l := by omega
            go_wp2
            go_ret
            exact ⟨rfl, HBV.out.trans (HB.out.mono HBV.out.size)⟩

end Go.Proofs.Ytpdihmlilbccjaa
