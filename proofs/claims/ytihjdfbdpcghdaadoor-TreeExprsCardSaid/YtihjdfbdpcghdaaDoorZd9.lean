/- Wn -/
import Derived.Test.YtihjdfbdpcghdaaDoorZd0
import Derived.Test.YtihjdfbdpcghdaaDoorZd1
import Derived.Test.YtihjdfbdpcghdaaDoorZd2
import Derived.Test.YtihjdfbdpcghdaaDoorZd3
import Derived.Test.YtihjdfbdpcghdaaDoorZd4
import Derived.Test.YtihjdfbdpcghdaaDoorZd5
import Derived.Test.YtihjdfbdpcghdaaDoorZd6
import Derived.Test.YtihjdfbdpcghdaaDoorZd8
import Derived.IntWalk
set_option linter.unusedVariables false
namespace Go.Proofs.YtihjdfbdpcghdaaDoor
open Go.RowKit
def WritesS (w0 : World) (B : Nat) (s : Sm) (E b l : Value) : Prop :=
  ∀ (w : World) (Bc Ba : Nat) (u : Value) (T : List (List UInt8)) (d : Int), Below B w0 w → B ≤ w.heap.size → PenAt w Bc Ba B u T → 0 ≤ d → d ≤ 24 →
    Calls Tryd.prog 62 #[penV Bc Ba, .agg #[.int .i64 s.kind, .int .i64 s.pl, .string (strOf s.name), .string (strOf s.type), E, b, l], .int .i64 d] w (PenPost w Bc Ba B u (adv T (penS s d)))
theorem stmt_step {w0 : World} {B : Nat} (s : Sm) {E b l : Value} (hr : Reads w0 B s.exprs E) (hn : s.name.length ≤ 40000) (ht : s.type.length ≤ 40000) (hb : WritesB w0 B s.body b) (hl : WritesB w0 B s.els l)
    (hbs : ∃ A c, b = .slice A s.body.length c) (hls : ∃ A c, l = .slice A s.els.length c) : WritesS w0 B s E b l := by
  obtain ⟨k, p, nm, ty, ex, bd, el⟩ := s
  intro w Bc Ba u T d hbw hB hp hd0 hd
  have hr : Reads w0 B ex E := hr
  have hn : nm.length ≤ 40000 := hn
  have ht : ty.length ≤ 40000 := ht
  have hb : WritesB w0 B bd b := hb
  have hl : WritesB w0 B el l := hl
  have hbs : ∃ A c, b = .slice A bd.length c := hbs
  have hls : ∃ A c, l = .slice A el.length c := hls
  show Calls Tryd.prog 62 #[penV Bc Ba, .agg #[.int .i64 k, .int .i64 p, .string (strOf nm), .string (strOf ty), E, b, l], .int .i64 d] w (PenPost w Bc Ba B u (adv T (penS (.mk k p nm ty ex bd el) d)))
  by_cases k1 : k = 1
  · subst k1
    by_cases hq : nameB nm = true
    · exact stmt_1_yes hbw hB hp hd0 hd hr hn ht hb hl hbs hls hq
    · exact stmt_1_no hbw hB hp hd0 hd hr hn ht hb hl hbs hls hq
  by_cases k2 : k = 2
  · subst k2
    by_cases hz : ex.length = 0
    · exact stmt_2_none hbw hB hp hd0 hd hr hn ht hb hl hbs hls hz
    · by_cases hq : placeB ex
      · exact stmt_2_yes hbw hB hp hd0 hd hr hn ht hb hl hbs hls (by omega) hq
      · exact stmt_2_no hbw hB hp hd0 hd hr hn ht hb hl hbs hls (by omega) hq
  by_cases k3 : k = 3
  · subst k3
    by_cases hq : el.length = 0
    · exact stmt_3_a hbw hB hp hd0 hd hr hn ht hb hl hbs hls hq
    · exact stmt_3_b hbw hB hp hd0 hd hr hn ht hb hl hbs hls hq
  by_cases k4 : k = 4
  · subst k4
    exact stmt_4 hbw hB hp hd0 hd hr hn ht hb hl hbs hls
  by_cases k5 : k = 5
  · subst k5
    by_cases hq : nameB nm = true
    · exact stmt_5_yes hbw hB hp hd0 hd hr hn ht hb hl hbs hls hq
    · exact stmt_5_no hbw hB hp hd0 hd hr hn ht hb hl hbs hls hq
  by_cases k6 : k = 6
  · subst k6
    by_cases hq : nameB nm = true
    · exact stmt_6_yes hbw hB hp hd0 hd hr hn ht hb hl hbs hls hq
    · exact stmt_6_no hbw hB hp hd0 hd hr hn ht hb hl hbs hls hq
  by_cases k7 : k = 7
  · subst k7
    by_cases hq : nameB nm = true
    · exact stmt_7_yes hbw hB hp hd0 hd hr hn ht hb hl hbs hls hq
    · exact stmt_7_no hbw hB hp hd0 hd hr hn ht hb hl hbs hls hq
  by_cases k8 : k = 8
  · subst k8
    by_cases hq : nameB nm = true
    · by_cases hq2 : nameB ty = true
      · exact stmt_8_yes hbw hB hp hd0 hd hr hn ht hb hl hbs hls hq hq2
      · exact stmt_8_no2 hbw hB hp hd0 hd hr hn ht hb hl hbs hls hq hq2
    · exact stmt_8_no1 hbw hB hp hd0 hd hr hn ht hb hl hbs hls hq
  by_cases k9 : k = 9
  · subst k9
    by_cases hq : nameB nm = true
    · exact stmt_9_yes hbw hB hp hd0 hd hr hn ht hb hl hbs hls hq
    · exact stmt_9_no hbw hB hp hd0 hd hr hn ht hb hl hbs hls hq
  by_cases k10 : k = 10
  · subst k10
    by_cases hq : nameB nm = true
    · exact stmt_10_yes hbw hB hp hd0 hd hr hn ht hb hl hbs hls hq
    · exact stmt_10_no hbw hB hp hd0 hd hr hn ht hb hl hbs hls hq
  by_cases k11 : k = 11
  · subst k11
    by_cases hq : ex.length = 0
    · exact stmt_11_a hbw hB hp hd0 hd hr hn ht hb hl hbs hls hq
    · exact stmt_11_b hbw hB hp hd0 hd hr hn ht hb hl hbs hls hq
  exact stmt_else hbw hB hp hd0 hd hr hn ht hb hl hbs hls (by omega)
def ReadsS (w0 : World) (B : Nat) (ss : List Sm) (V : Value) : Prop :=
  ∃ A c, V = .slice A ss.length c ∧ ss.length ≤ c ∧ c ≤ 9223372036854775807 ∧ ∀ (j : Nat) (hj : j < ss.length), ∃ b off A1 n1 c1 A2 n2 c2 A3 n3 c3, A = some ⟨b, off, none⟩ ∧ b < B ∧
    w0.cell? ⟨b, off + j * 7, none⟩ = some (.int .i64 ss[j].kind) ∧ w0.cell? ⟨b, off + j * 7 + 1, none⟩ = some (.int .i64 ss[j].pl) ∧ w0.cell? ⟨b, off + j * 7 + 2, none⟩ = some (.string (strOf ss[j].name)) ∧
    w0.cell? ⟨b, off + j * 7 + 3, none⟩ = some (.string (strOf ss[j].type)) ∧ w0.cell? ⟨b, off + j * 7 + 4, none⟩ = some (.slice A1 n1 c1) ∧ w0.cell? ⟨b, off + j * 7 + 5, none⟩ = some (.slice A2 n2 c2) ∧
    w0.cell? ⟨b, off + j * 7 + 6, none⟩ = some (.slice A3 n3 c3) ∧ WritesS w0 B ss[j] (.slice A1 n1 c1) (.slice A2 n2 c2) (.slice A3 n3 c3)
theorem penSs_drop {ss : List Sm} {j : Nat} (h : j < ss.length) (d : Int) : penSs (ss.drop j) d = cat (penS ss[j] d) (penSs (ss.drop (j + 1)) d) := by
  rw [List.drop_eq_getElem_cons h, penSs]
set_option maxRecDepth 100000 in
set_option maxHeartbeats 2000000 in
theorem block_step {w0 : World} {B : Nat} {ss : List Sm} {V : Value} (hrs : ReadsS w0 B ss V) : WritesB w0 B ss V := by
  intro w Bc Ba u T d hb hB hp hd0 hd9
  obtain ⟨A, c, rfl, hc, hM, hA⟩ := hrs
  obtain ⟨n, hn⟩ : ∃ n, n = ss.length := ⟨_, rfl⟩
  rw [← hn] at hc ⊢
  by_cases h4 : d ≤ 24
  · have h4' : decide (d ≤ 24) = true := by rw [decide_eq_true_eq]; exact h4
    have HEQ : Hid (adv T (penB ss d) = adv T (cat (some [[123]]) (cat (penSs ss d) (some [[125]])))) := Lib.hid (by unfold penB inBlock; rw [if_pos h4])
    have HN := Lib.hid hn
    have HA := Lib.hid hA
    have HP := Lib.hid hp
    have HBB := Lib.hid hb
    unfold penV
    clear hn hA hp hb
    go_enter Tryd.func54, Tryd.ntmps54
    go_wp2_with fail
    refine (must_yes _).mono ?_
    rintro e w1 ⟨rfl, rfl⟩
    go_wp2_with fail
    refine (put_new (Went.refl HP.out) hB [[123]] (by simp) (by simp)).mono ?_
    rintro e1 w1 hpost
    cases hR : adv T (some [[123]]) with
    | none =>
      rw [hR] at hpost
      obtain ⟨rfl, hch⟩ := hpost
      have HNO := Lib.hid (HEQ.out.trans (adv_cat_none hR _))
      clear hR
      unfold boom
      go_wp2
      refine ⟨rfl, ?_⟩
      rw [HNO.out]
      exact ⟨rfl, hch⟩
    | some T1 =>
      rw [hR] at hpost
      obtain ⟨rfl, u1, hwent⟩ := hpost
      have HW1 := Lib.hid hwent
      have HEQ1 := Lib.hid (HEQ.out.trans (adv_cat_some hR _))
      clear hwent hR
      go_wp2_with fail
      go_loopw [16] (fun i wr => ∃ (j : Nat) (u' : Value) (T' : List (List UInt8)), j ≤ n ∧ i = .int .i64 j ∧ Hid (Went w Bc Ba B u wr u' T') ∧ Hid (adv T (penB ss d) = adv T' (cat (penSs (ss.drop j) d) (some [[125]])))) (fun i _ => n - (intOf i).toNat)
      case atStart => exact ⟨0, u1, T1, Nat.zero_le _, rfl, HW1, HEQ1⟩
      case round =>
        obtain ⟨wo, rfl⟩ : ∃ wo : World, wo = wr := ⟨_, rfl⟩
        obtain ⟨j, u2, T2, hj, rfl, HW2, HEQ2⟩ := hrel
        by_cases hlt : j < n
        · have hjt : j < ss.length := by rw [← HN.out]; exact hlt
          obtain ⟨b, off, A1, n1, c1, A2, n2, c2, A3, n3, c3, rfl, hbB, r0, r1, r2, r3, r4, r5, r6, hWr⟩ := HA.out j hjt
          have hbw : Below B w0 wo := HBB.out.trans (HW2.out.2.2.below hB (fun x hx => (HP.out.mine hx).1))
          have up : ∀ {i : Nat} {v : Value}, w0.cell? ⟨b, i, none⟩ = some v → wo.cell? ⟨b, i, none⟩ = some v := fun h => (hbw.cell hbB).trans h
          have r0 := up r0
          have r1 := up r1
          have r2 := up r2
          have r3 := up r3
          have r4 := up r4
          have r5 := up r5
          have r6 := up r6
          have hdr := penSs_drop hjt d
          obtain ⟨E, hE⟩ : ∃ E, E = ss[j] := ⟨_, rfl⟩
          rw [← hE] at r0 r1 r2 r3 hWr hdr
          clear up hE
          obtain ⟨Y, hY⟩ : ∃ Y : World, Y = wo.alloc (.cells #[.int .i64 E.kind, .int .i64 E.pl, .string (strOf E.name), .string (strOf E.type), .slice A1 n1 c1, .slice A2 n2 c2, .slice A3 n3 c3] 39) := ⟨_, rfl⟩
          have hwy : Went w Bc Ba B u Y u2 T2 := by rw [hY]; exact HW2.out.alloc _
          have hby : Below B w0 Y := by rw [hY]; exact hbw.alloc (Nat.le_trans hB HW2.out.2.2.size) _
          have hcall := hWr Y Bc Ba u2 T2 d hby (Nat.le_trans hB hwy.2.2.size) hwy.1 hd0 h4
          have HEQ3 : Hid (adv T (penB ss d) = adv T2 (cat (penS E d) (cat (penSs (ss.drop (j + 1)) d) (some [[125]])))) := Lib.hid (by rw [HEQ2.out, hdr, cat_assoc])
          have HWY := Lib.hid hwy
          have HY := Lib.hid hY
          have HCALL := Lib.hid hcall
          clear hwy hY hcall hdr hWr hbw hby
          unfold penV at HCALL
          go_wp2_with fail
          rw [← HY.out]
          refine HCALL.out.mono ?_
          rintro e4 w4 hpost
          cases hR : adv T2 (penS E d) with
          | none =>
            rw [hR] at hpost
            obtain ⟨rfl, hch⟩ := hpost
            have HNO := Lib.hid (HEQ3.out.trans (adv_cat_none hR _))
            have HCH := Lib.hid (HWY.out.fell hch)
            clear hR hch
            unfold boom
            go_wp2
            refine ⟨rfl, ?_⟩
            rw [HNO.out]
            exact ⟨rfl, HCH.out⟩
          | some T4 =>
            rw [hR] at hpost
            obtain ⟨rfl, u4, hwent⟩ := hpost
            have HW4 := Lib.hid (HWY.out.trans hwent)
            have HEQ5 := Lib.hid (HEQ3.out.trans (adv_cat_some hR _))
            clear hwent hR
            go_wp2_with fail
            go_roundw
            case rel => exact ⟨j + 1, u4, T4, by omega, by go_num, HW4, HEQ5⟩
            case measure => simp [intOf]; omega
        · have hjn : j = n := by omega
          subst hjn
          have hdn : ss.drop j = [] := List.drop_of_length_le (by rw [HN.out]; exact Nat.le_refl _)
          have HEQ3 : Hid (adv T (penB ss d) = adv T2 (some [[125]])) := Lib.hid (by rw [HEQ2.out, hdn, penSs, cat_nil_l])
          clear hdn
          go_wp2_with fail
          refine (put_new (Went.refl HW2.out.1) (Nat.le_trans hB HW2.out.2.2.size) [[125]] (by simp) (by simp)).mono ?_
          rintro e4 w4 hpost
          cases hR : adv T2 (some [[125]]) with
          | none =>
            rw [hR] at hpost
            obtain ⟨rfl, hch⟩ := hpost
            have HNO := Lib.hid (HEQ3.out.trans hR)
            have HCH := Lib.hid (HW2.out.fell hch)
            clear hR hch
            unfold boom
            go_wp2
            refine ⟨rfl, ?_⟩
            rw [HNO.out]
            exact ⟨rfl, HCH.out⟩
          | some T4 =>
            rw [hR] at hpost
            obtain ⟨rfl, u4, hwent⟩ := hpost
            have HW4 := Lib.hid (HW2.out.trans hwent)
            have HFIN := Lib.hid (HEQ3.out.trans hR)
            clear hwent hR
            go_wp2
            go_end0
            rw [HFIN.out]
            exact ⟨rfl, u4, HW4.out⟩
  · have h4' : decide (d ≤ 24) = false := by rw [decide_eq_false_iff_not]; exact h4
    have HNO : Hid (adv T (penB ss d) = none) := Lib.hid (by unfold penB inBlock; rw [if_neg h4]; rfl)
    clear hn hA hp hb
    unfold penV
    go_enter Tryd.func54, Tryd.ntmps54
    go_wp2_with fail
    refine (must_no _).mono ?_
    rintro e w1 ⟨rfl, rfl⟩
    unfold boom
    go_wp2
    refine ⟨rfl, ?_⟩
    rw [HNO.out]
    exact ⟨rfl, Chg.refl _ _⟩
theorem block_any {w0 : World} {B : Nat} (htab : Tab B w0) {ss : List Sm} {v : Value} (h : IsSms w0 (· < B) ss v) : smallSs 40000 ss → WritesB w0 B ss v := by
  induction h with
  | mk ss A c fe fb fl hc hM hA he hb hl ihb ihl =>
    intro hsm
    refine block_step ⟨A, c, rfl, hc, hM, fun j hj => ?_⟩
    obtain ⟨b, off, h1, h2, h3, h4, c0, c1, c2, c3, c4, c5, c6⟩ := hA j hj
    obtain ⟨s1, s2, _, s4, _, s5, _, s6⟩ := smallS_parts (smallSs_get hsm j hj)
    have hrd := reads_any htab (he j hj) s4
    obtain ⟨A1, k1, e1, _, _⟩ := (he j hj).slice
    obtain ⟨A2, k2, e2, _, _⟩ := (hb j hj).slice
    obtain ⟨A3, k3, e3, _, _⟩ := (hl j hj).slice
    have hw := stmt_step ss[j] hrd s1 s2 (ihb j hj s5) (ihl j hj s6) ⟨A2, k2, e2⟩ ⟨A3, k3, e3⟩
    rw [e1, e2, e3] at hw
    rw [e1] at c4
    rw [e2] at c5
    rw [e3] at c6
    exact ⟨b, off, A1, _, k1, A2, _, k2, A3, _, k3, h1, h2, c0, c1, c2, c3, c4, c5, c6, hw⟩
end Go.Proofs.YtihjdfbdpcghdaaDoor
