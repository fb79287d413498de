/- Wn Xa Xb Xc Xd Xe Xf Xh -/
import Derived.Test.YtodociiaobjfgaaGreatDoorVb3
import Derived.Test.YtodociiaobjfgaaGreatDoorVb4
import Derived.Test.YtodociiaobjfgaaGreatDoorVb5
import Derived.Test.YtodociiaobjfgaaGreatDoorVb6
import Derived.Test.YtodociiaobjfgaaGreatDoorVb7
import Derived.Test.YtodociiaobjfgaaGreatDoorVc0
set_option linter.unusedVariables false
set_option linter.unusedSimpArgs false
namespace Go.Proofs.YtodociiaobjfgaaGreatDoor
open Go.RowKit
def Xtu (w0 : World) (B : Nat) (s : Sm) (E b l : Value) : Prop :=
 ∀ (w : World) (Bc Ba : Nat) (u : Value) (T : List (List UInt8)) (d : Int), Below B w0 w → B ≤ w.heap.size → Xap w Bc Ba B u T → 0 ≤ d → d ≤ 24 →
  Calls Tryz.prog 58 #[penV Bc Ba, .agg #[.int .i64 s.kind, .int .i64 s.pl, .string (Xaa s.name), .string (Xaa s.type), E, b, l], .int .i64 d] w (Xal w Bc Ba B u (adv T (penS s d)))
theorem Xxb {w0 : World} {B : Nat} (s : Sm) {E b l : Value} (hr : Xbd w0 B s.exprs E) (hn : s.name.length ≤ 40000) (ht : s.type.length ≤ 40000) (hb : Xao w0 B s.body b) (hl : Xao w0 B s.els l)
  (hbs : ∃ A c, b = .slice A s.body.length c) (hls : ∃ A c, l = .slice A s.els.length c) : Xtu w0 B s E b l := by
 obtain ⟨k, p, nm, ty, ex, bd, el⟩ := s
 intro w Bc Ba u T d hbw hB hp hd0 hd
 have hr : Xbd w0 B ex E := hr
 have hn : nm.length ≤ 40000 := hn
 have ht : ty.length ≤ 40000 := ht
 have hb : Xao w0 B bd b := hb
 have hl : Xao w0 B el l := hl
 have hbs : ∃ A c, b = .slice A bd.length c := hbs
 have hls : ∃ A c, l = .slice A el.length c := hls
 show Calls Tryz.prog 58 #[penV Bc Ba, .agg #[.int .i64 k, .int .i64 p, .string (Xaa nm), .string (Xaa ty), E, b, l], .int .i64 d] w (Xal w Bc Ba B u (adv T (penS (.mk k p nm ty ex bd el) d)))
 by_cases k1 : k = 1
 · subst k1
   by_cases hq : Xam nm = true
   · exact Xtb hbw hB hp hd0 hd hr hn ht hb hl hbs hls hq
   · exact Xwu hbw hB hp hd0 hd hr hn ht hb hl hbs hls hq
 by_cases k2 : k = 2
 · subst k2
   by_cases hz : ex.length = 0
   · exact Xpx hbw hB hp hd0 hd hr hn ht hb hl hbs hls hz
   · by_cases hq : Xfp ex
     · exact Xtc hbw hB hp hd0 hd hr hn ht hb hl hbs hls (by omega) hq
     · exact Xwv hbw hB hp hd0 hd hr hn ht hb hl hbs hls (by omega) hq
 by_cases k3 : k = 3
 · subst k3
   by_cases hq : el.length = 0
   · exact stmt_3_a hbw hB hp hd0 hd hr hn ht hb hl hbs hls hq
   · exact stmt_3_b hbw hB hp hd0 hd hr hn ht hb hl hbs hls hq
 by_cases k4 : k = 4
 · subst k4
   exact stmt_4 hbw hB hp hd0 hd hr hn ht hb hl hbs hls
 by_cases k5 : k = 5
 · subst k5
   by_cases hq : Xam nm = true
   · exact Xtd hbw hB hp hd0 hd hr hn ht hb hl hbs hls hq
   · exact Xww hbw hB hp hd0 hd hr hn ht hb hl hbs hls hq
 by_cases k6 : k = 6
 · subst k6
   by_cases hq : Xam nm = true
   · exact Xte hbw hB hp hd0 hd hr hn ht hb hl hbs hls hq
   · exact Xwx hbw hB hp hd0 hd hr hn ht hb hl hbs hls hq
 by_cases k7 : k = 7
 · subst k7
   by_cases hq : Xam nm = true
   · exact Xtf hbw hB hp hd0 hd hr hn ht hb hl hbs hls hq
   · exact Xwy hbw hB hp hd0 hd hr hn ht hb hl hbs hls hq
 by_cases k8 : k = 8
 · subst k8
   by_cases hq : Xam nm = true
   · by_cases hq2 : Xam ty = true
     · exact Xti hbw hB hp hd0 hd hr hn ht hb hl hbs hls hq hq2
     · exact Xth hbw hB hp hd0 hd hr hn ht hb hl hbs hls hq hq2
   · exact Xtg hbw hB hp hd0 hd hr hn ht hb hl hbs hls hq
 by_cases k9 : k = 9
 · subst k9
   by_cases hq : Xam nm = true
   · exact Xtj hbw hB hp hd0 hd hr hn ht hb hl hbs hls hq
   · exact Xwz hbw hB hp hd0 hd hr hn ht hb hl hbs hls hq
 by_cases k10 : k = 10
 · subst k10
   by_cases hq : Xam nm = true
   · exact Xpw hbw hB hp hd0 hd hr hn ht hb hl hbs hls hq
   · exact Xta hbw hB hp hd0 hd hr hn ht hb hl hbs hls hq
 by_cases k11 : k = 11
 · subst k11
   by_cases hq : ex.length = 0
   · exact Xws hbw hB hp hd0 hd hr hn ht hb hl hbs hls hq
   · exact Xwt hbw hB hp hd0 hd hr hn ht hb hl hbs hls hq
 exact Xxa hbw hB hp hd0 hd hr hn ht hb hl hbs hls (by omega)
def ReadsS (w0 : World) (B : Nat) (ss : List Sm) (V : Value) : Prop :=
 ∃ A c, V = .slice A ss.length c ∧ ss.length ≤ c ∧ c ≤ 9223372036854775807 ∧ ∀ (j : Nat) (hj : j < ss.length), ∃ b off A1 n1 c1 A2 n2 c2 A3 n3 c3, A = some ⟨b, off, none⟩ ∧ b < B ∧
  w0.cell? ⟨b, off + j * 7, none⟩ = some (.int .i64 ss[j].kind) ∧ w0.cell? ⟨b, off + j * 7 + 1, none⟩ = some (.int .i64 ss[j].pl) ∧ w0.cell? ⟨b, off + j * 7 + 2, none⟩ = some (.string (Xaa ss[j].name)) ∧
  w0.cell? ⟨b, off + j * 7 + 3, none⟩ = some (.string (Xaa ss[j].type)) ∧ w0.cell? ⟨b, off + j * 7 + 4, none⟩ = some (.slice A1 n1 c1) ∧ w0.cell? ⟨b, off + j * 7 + 5, none⟩ = some (.slice A2 n2 c2) ∧
  w0.cell? ⟨b, off + j * 7 + 6, none⟩ = some (.slice A3 n3 c3) ∧ Xtu w0 B ss[j] (.slice A1 n1 c1) (.slice A2 n2 c2) (.slice A3 n3 c3)
theorem Xsq {ss : List Sm} {j : Nat} (h : j < ss.length) (d : Int) : Xdd (ss.drop j) d = cat (penS ss[j] d) (Xdd (ss.drop (j + 1)) d) := by
 rw [List.drop_eq_getElem_cons h, Xdd]
set_option maxRecDepth 100000 in
set_option maxHeartbeats 2000000 in
theorem Xrk {w0 : World} {B : Nat} {ss : List Sm} {V : Value} (hrs : ReadsS w0 B ss V) : Xao w0 B ss V := by
 intro w Bc Ba u T d hb hB hp hd0 hd9
 obtain ⟨A, c, rfl, hc, hM, hA⟩ := hrs
 obtain ⟨n, hn⟩ : ∃ n, n = ss.length := ⟨_, rfl⟩
 rw [← hn] at hc ⊢
 by_cases h4 : d ≤ 24
 · have h4' : decide (d ≤ 24) = true := by rw [decide_eq_true_eq]; exact h4
   have HEQ : Hid (adv T (penB ss d) = adv T (cat (some [[123]]) (cat (Xdd ss d) (some [[125]])))) := lh (by unfold penB Xcv; rw [if_pos h4])
   have HN := lh hn
   have HA := lh hA
   have HP := lh hp
   have HBB := lh hb
   unfold penV
   clear hn hA hp hb
   go_enter Tryz.func45, Tryz.ntmps45
   go_wp2_with fail
   refine (Xaj _).mono ?_
   rintro e w1 ⟨rfl, rfl⟩
   go_wp2_with fail
   refine (Xaq (Went.refl HP.out) hB [[123]] (by simp) (by simp)).mono ?_
   rintro e1 w1 hpost
   cases hR : adv T (some [[123]]) with
   | none =>
     rw [hR] at hpost
     obtain ⟨rfl, hch⟩ := hpost
     have HNO := lh (HEQ.out.trans (Xad hR _))
     clear hR
     unfold boom
     go_wp2
     refine ⟨rfl, ?_⟩
     rw [HNO.out]
     exact ⟨rfl, hch⟩
   | some T1 =>
     rw [hR] at hpost
     obtain ⟨rfl, u1, hwent⟩ := hpost
     have HW1 := lh hwent
     have HEQ1 := lh (HEQ.out.trans (Xae hR _))
     clear hwent hR
     go_wp2_with fail
     go_loopw [16] (fun i wr => ∃ (j : Nat) (u' : Value) (T' : List (List UInt8)), j ≤ n ∧ i = .int .i64 j ∧ Hid (Went w Bc Ba B u wr u' T') ∧ Hid (adv T (penB ss d) = adv T' (cat (Xdd (ss.drop j) d) (some [[125]])))) (fun i _ => n - (intOf i).toNat)
     case atStart => exact ⟨0, u1, T1, Nat.zero_le _, rfl, HW1, HEQ1⟩
     case round =>
      obtain ⟨wo, rfl⟩ : ∃ wo : World, wo = wr := ⟨_, rfl⟩
      obtain ⟨j, u2, T2, hj, rfl, HW2, HEQ2⟩ := hrel
      by_cases hlt : j < n
      · have hjt : j < ss.length := by rw [← HN.out]; exact hlt
        obtain ⟨b, off, A1, n1, c1, A2, n2, c2, A3, n3, c3, rfl, hbB, r0, r1, r2, r3, r4, r5, r6, hWr⟩ := HA.out j hjt
        have hbw : Below B w0 wo := HBB.out.trans (HW2.out.2.2.below hB (fun x hx => (HP.out.mine hx).1))
        have up : ∀ {i : Nat} {v : Value}, w0.cell? ⟨b, i, none⟩ = some v → wo.cell? ⟨b, i, none⟩ = some v := fun h => (hbw.cell hbB).trans h
        have r0 := up r0
        have r1 := up r1
        have r2 := up r2
        have r3 := up r3
        have r4 := up r4
        have r5 := up r5
        have r6 := up r6
        have hdr := Xsq hjt d
        obtain ⟨E, hE⟩ : ∃ E, E = ss[j] := ⟨_, rfl⟩
        rw [← hE] at r0 r1 r2 r3 hWr hdr
        clear up hE
        obtain ⟨Y, hY⟩ : ∃ Y : World, Y = wo.alloc (.cells #[.int .i64 E.kind, .int .i64 E.pl, .string (Xaa E.name), .string (Xaa E.type), .slice A1 n1 c1, .slice A2 n2 c2, .slice A3 n3 c3] 38) := ⟨_, rfl⟩
        have hwy : Went w Bc Ba B u Y u2 T2 := by rw [hY]; exact HW2.out.alloc _
        have hby : Below B w0 Y := by rw [hY]; exact hbw.alloc (Nat.le_trans hB HW2.out.2.2.size) _
        have hcall := hWr Y Bc Ba u2 T2 d hby (Nat.le_trans hB hwy.2.2.size) hwy.1 hd0 h4
        have HEQ3 : Hid (adv T (penB ss d) = adv T2 (cat (penS E d) (cat (Xdd (ss.drop (j + 1)) d) (some [[125]])))) := lh (by rw [HEQ2.out, hdr, Xbo])
        have HWY := lh hwy
        have HY := lh hY
        have HCALL := lh hcall
        clear hwy hY hcall hdr hWr hbw hby
        unfold penV at HCALL
        go_wp2_with fail
        rw [← HY.out]
        refine HCALL.out.mono ?_
        rintro e4 w4 hpost
        cases hR : adv T2 (penS E d) with
        | none =>
          rw [hR] at hpost
          obtain ⟨rfl, hch⟩ := hpost
          have HNO := lh (HEQ3.out.trans (Xad hR _))
          have HCH := lh (HWY.out.fell hch)
          clear hR hch
          unfold boom
          go_wp2
          refine ⟨rfl, ?_⟩
          rw [HNO.out]
          exact ⟨rfl, HCH.out⟩
        | some T4 =>
          rw [hR] at hpost
          obtain ⟨rfl, u4, hwent⟩ := hpost
          have HW4 := lh (HWY.out.trans hwent)
          have HEQ5 := lh (HEQ3.out.trans (Xae hR _))
          clear hwent hR
          go_wp2_with fail
          go_roundw
          case rel => exact ⟨j + 1, u4, T4, by omega, by go_num, HW4, HEQ5⟩
          case measure => simp [intOf]; omega
      · have hjn : j = n := by omega
        subst hjn
        have hdn : ss.drop j = [] := List.drop_of_length_le (by rw [HN.out]; exact Nat.le_refl _)
        have HEQ3 : Hid (adv T (penB ss d) = adv T2 (some [[125]])) := lh (by rw [HEQ2.out, hdn, Xdd, Xbh])
        clear hdn
        go_wp2_with fail
        refine (Xaq (Went.refl HW2.out.1) (Nat.le_trans hB HW2.out.2.2.size) [[125]] (by simp) (by simp)).mono ?_
        rintro e4 w4 hpost
        cases hR : adv T2 (some [[125]]) with
        | none =>
          rw [hR] at hpost
          obtain ⟨rfl, hch⟩ := hpost
          have HNO := lh (HEQ3.out.trans hR)
          have HCH := lh (HW2.out.fell hch)
          clear hR hch
          unfold boom
          go_wp2
          refine ⟨rfl, ?_⟩
          rw [HNO.out]
          exact ⟨rfl, HCH.out⟩
        | some T4 =>
          rw [hR] at hpost
          obtain ⟨rfl, u4, hwent⟩ := hpost
          have HW4 := lh (HW2.out.trans hwent)
          have HFIN := lh (HEQ3.out.trans hR)
          clear hwent hR
          go_wp2
          go_end0
          rw [HFIN.out]
          exact ⟨rfl, u4, HW4.out⟩
 · have h4' : decide (d ≤ 24) = false := by rw [decide_eq_false_iff_not]; exact h4
   have HNO : Hid (adv T (penB ss d) = none) := lh (by unfold penB Xcv; rw [if_neg h4]; rfl)
   clear hn hA hp hb
   unfold penV
   go_enter Tryz.func45, Tryz.ntmps45
   go_wp2_with fail
   refine (Xah _).mono ?_
   rintro e w1 ⟨rfl, rfl⟩
   unfold boom
   go_wp2
   refine ⟨rfl, ?_⟩
   rw [HNO.out]
   exact ⟨rfl, Chg.refl _ _⟩
theorem Xtx {w0 : World} {B : Nat} (htab : Tab B w0) {ss : List Sm} {v : Value} (h : Xcc w0 (· < B) ss v) : Xbz 40000 ss → Xao w0 B ss v := by
 induction h with
 | mk ss A c fe fb fl hc hM hA he hb hl ihb ihl =>
   intro hsm
   refine Xrk ⟨A, c, rfl, hc, hM, fun j hj => ?_⟩
   obtain ⟨b, off, h1, h2, h3, h4, c0, c1, c2, c3, c4, c5, c6⟩ := hA j hj
   obtain ⟨s1, s2, _, s4, _, s5, _, s6⟩ := Xet (Xel hsm j hj)
   have hrd := Xnw htab (he j hj) s4
   obtain ⟨A1, k1, e1, _, _⟩ := (he j hj).slice
   obtain ⟨A2, k2, e2, _, _⟩ := (hb j hj).slice
   obtain ⟨A3, k3, e3, _, _⟩ := (hl j hj).slice
   have hw := Xxb ss[j] hrd s1 s2 (ihb j hj s5) (ihl j hj s6) ⟨A2, k2, e2⟩ ⟨A3, k3, e3⟩
   rw [e1, e2, e3] at hw
   rw [e1] at c4
   rw [e2] at c5
   rw [e3] at c6
   exact ⟨b, off, A1, _, k1, A2, _, k2, A3, _, k3, h1, h2, c0, c1, c2, c3, c4, c5, c6, hw⟩
set_option maxRecDepth 100000 in
set_option maxHeartbeats 1000000 in
theorem pair_any {w : World} {Bc Ba B : Nat} {u : Value} {T : List (List UInt8)} (hp : Xap w Bc Ba B u T) (hB : B ≤ w.heap.size) (n t : List UInt8) (hn : n.length ≤ 40000) (ht : t.length ≤ 40000) :
  Calls Tryz.prog 56 #[penV Bc Ba, .agg #[.string (Xaa n), .string (Xaa t)]] w (Xal w Bc Ba B u (adv T (cat (nmT n) (tyT t)))) := by
 obtain ⟨X, hX⟩ : ∃ X : World, X = w.alloc (.cells #[.string (Xaa n), .string (Xaa t)] 44) := ⟨_, rfl⟩
 have hblk : X.heap[w.heap.size]? = some (.cells #[.string (Xaa n), .string (Xaa t)] 44 (0, 0)) := by rw [hX]; exact heap_alloc_new _ _
 have hw : Went w Bc Ba B u X u T := by rw [hX]; exact (Went.refl hp).alloc _
 have hsz : (Xaa n).size ≤ 40000 := by rw [Lib.size_eq, Xak]; exact hn
 have c0 := cell_of_row X w.heap.size 0 _ _ (0, 0) hblk
 simp at c0
 have z0 := frozen_of_row X w.heap.size 0 _ _ hblk
 have hnm : ¬ Mine Bc Ba u w.heap.size := fun hm => by have := (hp.mine hm).2; omega
 have HP := lh hp
 have HX := lh hX
 have HW := lh hw
 have HBLK := lh hblk
 have HNM := lh hnm
 have HN := lh hn
 have HT := lh ht
 cases hq : Xam n with
 | false =>
   have HNO : Hid (adv T (cat (nmT n) (tyT t)) = none) := lh (by unfold nmT; rw [if_neg (by simp [hq])]; rfl)
   have HTN := lh (Xdf ⟨w.heap.size, 0, none⟩ (Xaa n) X c0 hsz hq)
   clear hX hblk hw hsz c0 z0 hnm hp hn ht
   unfold penV
   go_enter Tryz.func56, Tryz.ntmps56
   go_wp2_with fail
   rw [← HX.out]
   refine HTN.out.mono ?_
   rintro e w1 ⟨rfl, hbl⟩
   have HCH := lh (HW.out.2.2.trans (Chg.of_below (P := fun _ => False) hbl) (fun _ _ e => e.elim))
   clear hbl
   unfold boom
   go_wp2
   refine ⟨rfl, ?_⟩
   rw [HNO.out]
   exact ⟨rfl, HCH.out⟩
 | true =>
   have HEQ : Hid (adv T (cat (nmT n) (tyT t)) = adv T (cat (some [n]) (tyT t))) := lh (by unfold nmT; rw [if_pos hq])
   have HTN := lh (Xba ⟨w.heap.size, 0, none⟩ (Xaa n) X c0 z0 hsz hq)
   clear hX hblk hw hsz c0 z0 hnm hp hn ht
   unfold penV
   go_enter Tryz.func56, Tryz.ntmps56
   go_wp2_with fail
   rw [← HX.out]
   refine HTN.out.mono ?_
   rintro e w2 ⟨rfl, wm, hbl, hw2⟩
   have hbm : wm.heap[w.heap.size]? = some (.cells #[.string (Xaa n), .string (Xaa t)] 44 (0, 0)) := (hbl.block _ (Xab HBLK.out)).trans HBLK.out
   have hb2 : w2.heap[w.heap.size]? = some (.cells #[.string ⟨#[]⟩, .string (Xaa t)] 44 (0, 0)) := by
    rw [hw2]; simp [World.setCell, Array.getElem?_modify, hbm]
   have HW2 : Hid (Went w Bc Ba B u w2 u T) := lh (by rw [hw2]; exact (HW.out.below hbl).setCell _ _ (Nat.le_refl _) HNM.out)
   have HB2 := lh hb2
   clear hbl hw2 hbm hb2
   go_wp2_with fail
   refine (Xaq (Went.refl HW2.out.1) (Nat.le_trans hB HW2.out.2.2.size) [n] (by intro x hx; simp at hx; rw [hx]; exact HN.out) (by simp)).mono ?_
   rintro e3 w3 hpost
   cases hR : adv T (some [n]) with
   | none =>
     rw [hR] at hpost
     obtain ⟨rfl, hch⟩ := hpost
     have HNO := lh (HEQ.out.trans (Xad hR _))
     have HCH := lh (HW2.out.fell hch)
     clear hR hch
     unfold boom
     go_wp2
     refine ⟨rfl, ?_⟩
     rw [HNO.out]
     exact ⟨rfl, HCH.out⟩
   | some T3 =>
     rw [hR] at hpost
     obtain ⟨rfl, u3, hwent⟩ := hpost
     have HW3 := lh (HW2.out.trans hwent)
     have HEQ3 := lh (HEQ.out.trans (Xae hR _))
     have hb3 := (hwent.2.2.block _ (Xab HB2.out) HNM.out).trans HB2.out
     have c1 := cell_of_row w3 w.heap.size 1 _ _ (0, 0) hb3
     simp at c1
     clear hwent hR hb3
     have HTY := lh (Xgj HW3.out.1 (Nat.le_trans hB HW3.out.2.2.size) t HT.out)
     unfold penV at HTY
     go_wp2_with fail
     refine HTY.out.mono ?_
     rintro e4 w4 hpost
     cases hR : adv T3 (tyT t) with
     | none =>
       rw [hR] at hpost
       obtain ⟨rfl, hch⟩ := hpost
       have HNO := lh (HEQ3.out.trans hR)
       have HCH := lh (HW3.out.fell hch)
       clear hR hch
       unfold boom
       go_wp2
       refine ⟨rfl, ?_⟩
       rw [HNO.out]
       exact ⟨rfl, HCH.out⟩
     | some T4 =>
       rw [hR] at hpost
       obtain ⟨rfl, u4, hwent⟩ := hpost
       have HW4 := lh (HW3.out.trans hwent)
       have HFIN := lh (HEQ3.out.trans hR)
       clear hwent hR
       go_wp2
       go_end0
       rw [HFIN.out]
       exact ⟨rfl, u4, HW4.out⟩
theorem Xvd {w : World} {Bc Ba B : Nat} {u : Value} {T : List (List UInt8)} (hp : Xap w Bc Ba B u T) (hB : B ≤ w.heap.size) (E : Pr) (hn : E.name.length ≤ 40000) (ht : E.type.length ≤ 40000) :
  Calls Tryz.prog 56 #[penV Bc Ba, .agg #[.string (Xaa E.name), .string (Xaa E.type)]] w (Xal w Bc Ba B u (adv T (Xfw E))) := pair_any hp hB E.name E.type hn ht
theorem Xso {ps : List Pr} {j : Nat} (h : j < ps.length) : Xek (ps.drop j) = cat (Xfw ps[j]) (cat (some [[59]]) (Xek (ps.drop (j + 1)))) := by
 rw [List.drop_eq_getElem_cons h, Xek, Xbo]
set_option maxRecDepth 100000 in
set_option maxHeartbeats 2000000 in
theorem Xsa {w0 w : World} {Bc Ba B : Nat} {u : Value} {T : List (List UInt8)} (hb : Below B w0 w) (hB : B ≤ w.heap.size) (hp : Xap w Bc Ba B u T) (ps : List Pr) {V : Value} (hr : Xcl w0 (· < B) ps V) (hsm : ∀ p ∈ ps, p.name.length ≤ 40000 ∧ p.type.length ≤ 40000) :
  Calls Tryz.prog 41 #[penV Bc Ba, V] w (Xal w Bc Ba B u (adv T (need (ps.length ≤ 8) (cat (some [[123]]) (cat (Xek ps) (some [[125]])))))) := by
 obtain ⟨A, c, rfl, hc, hM, hA⟩ := hr
 obtain ⟨n, hn⟩ : ∃ n, n = ps.length := ⟨_, rfl⟩
 obtain ⟨Q, hQ⟩ : ∃ Q : Ts, Q = need (ps.length ≤ 8) (cat (some [[123]]) (cat (Xek ps) (some [[125]]))) := ⟨_, rfl⟩
 rw [← hn] at hc
 rw [← hQ, ← hn]
 by_cases h4 : n ≤ 8
 · have h4' : decide ((n : Int) ≤ 8) = true := by rw [decide_eq_true_eq]; omega
   have HEQ : Hid (adv T Q = adv T (cat (some [[123]]) (cat (Xek ps) (some [[125]])))) := lh (by rw [hQ, Xai (by omega)])
   have HN := lh hn
   have HA := lh hA
   have HP := lh hp
   have HBB := lh hb
   have HSM := lh hsm
   unfold penV
   clear hn hA h4 hp hb hsm hQ
   go_enter Tryz.func41, Tryz.ntmps41
   go_wp2_with fail
   refine (Xaj _).mono ?_
   rintro e w1 ⟨rfl, rfl⟩
   go_wp2_with fail
   refine (Xaq (Went.refl HP.out) hB [[123]] (by simp) (by simp)).mono ?_
   rintro e1 w1 hpost
   cases hR : adv T (some [[123]]) with
   | none =>
     rw [hR] at hpost
     obtain ⟨rfl, hch⟩ := hpost
     have HNO := lh (HEQ.out.trans (Xad hR _))
     clear hR
     unfold boom
     go_wp2
     refine ⟨rfl, ?_⟩
     rw [HNO.out]
     exact ⟨rfl, hch⟩
   | some T1 =>
     rw [hR] at hpost
     obtain ⟨rfl, u1, hwent⟩ := hpost
     have HW1 := lh hwent
     have HEQ1 := lh (HEQ.out.trans (Xae hR _))
     clear hwent hR
     go_wp2_with fail
     go_loopw [15] (fun i wr => ∃ (j : Nat) (u' : Value) (T' : List (List UInt8)), j ≤ n ∧ i = .int .i64 j ∧ Hid (Went w Bc Ba B u wr u' T') ∧ Hid (adv T Q = adv T' (cat (Xek (ps.drop j)) (some [[125]])))) (fun i _ => n - (intOf i).toNat)
     case atStart => exact ⟨0, u1, T1, Nat.zero_le _, rfl, HW1, HEQ1⟩
     case round =>
      obtain ⟨wo, rfl⟩ : ∃ wo : World, wo = wr := ⟨_, rfl⟩
      obtain ⟨j, u2, T2, hj, rfl, HW2, HEQ2⟩ := hrel
      by_cases hlt : j < n
      · have hjt : j < ps.length := by rw [← HN.out]; exact hlt
        obtain ⟨b, off, rfl, hbB, _, _, r0, r1⟩ := HA.out j hjt
        have hbw : Below B w0 wo := HBB.out.trans (HW2.out.2.2.below hB (fun x hx => (HP.out.mine hx).1))
        have r0 := (hbw.cell (p := ⟨b, off + j * 2, none⟩) hbB).trans r0
        have r1 := (hbw.cell (p := ⟨b, off + j * 2 + 1, none⟩) hbB).trans r1
        obtain ⟨s1, s2⟩ := HSM.out ps[j] (List.getElem_mem _)
        have hdr := Xso hjt
        obtain ⟨E, hE⟩ : ∃ E, E = ps[j] := ⟨_, rfl⟩
        rw [← hE] at r0 r1 hdr s1 s2
        clear hE
        obtain ⟨Y, hY⟩ : ∃ Y : World, Y = wo.alloc (.cells #[.string (Xaa E.name), .string (Xaa E.type)] 44) := ⟨_, rfl⟩
        have HW3 : Hid (Went w Bc Ba B u Y u2 T2) := lh (by rw [hY]; exact HW2.out.alloc _)
        have HY := lh hY
        have HS1 := lh s1
        have HS2 := lh s2
        obtain ⟨T3, hT3⟩ : ∃ T3, T3 = T2 := ⟨_, rfl⟩
        obtain ⟨u3, hu3⟩ : ∃ u3, u3 = u2 := ⟨_, rfl⟩
        rw [← hT3, ← hu3] at HW3
        have HEQ3 : Hid (adv T Q = adv T3 (cat (Xfw E) (cat (some [[59]]) (cat (Xek (ps.drop (j + 1))) (some [[125]]))))) := lh (by rw [HEQ2.out, hT3, hdr, Xbo, Xbo])
        have HPR := lh (Xvd HW3.out.1 (Nat.le_trans hB HW3.out.2.2.size) E s1 s2)
        clear hY hdr hbw s1 s2 hT3 hu3
        unfold penV at HPR
        go_wp2_with fail
        rw [← HY.out]
        refine (HPR.out).mono ?_
        rintro e4 w4 hpost
        cases hR : adv T3 (Xfw E) with
        | none =>
          rw [hR] at hpost
          obtain ⟨rfl, hch⟩ := hpost
          have HNO := lh (HEQ3.out.trans (Xad hR _))
          have HCH := lh (HW3.out.fell hch)
          clear hR hch
          unfold boom
          go_wp2
          refine ⟨rfl, ?_⟩
          rw [HNO.out]
          exact ⟨rfl, HCH.out⟩
        | some T4 =>
          rw [hR] at hpost
          obtain ⟨rfl, u4, hwent⟩ := hpost
          have HW4 := lh (HW3.out.trans hwent)
          have HEQ4 := lh (HEQ3.out.trans (Xae hR _))
          clear hwent hR
          go_wp2_with fail
          refine (Xaq (Went.refl HW4.out.1) (Nat.le_trans hB HW4.out.2.2.size) [[59]] (by simp) (by simp)).mono ?_
          rintro e5 w5 hpost
          cases hR : adv T4 (some [[59]]) with
          | none =>
            rw [hR] at hpost
            obtain ⟨rfl, hch⟩ := hpost
            have HNO := lh (HEQ4.out.trans (Xad hR _))
            have HCH := lh (HW4.out.fell hch)
            clear hR hch
            unfold boom
            go_wp2
            refine ⟨rfl, ?_⟩
            rw [HNO.out]
            exact ⟨rfl, HCH.out⟩
          | some T5 =>
            rw [hR] at hpost
            obtain ⟨rfl, u5, hwent⟩ := hpost
            have HW5 := lh (HW4.out.trans hwent)
            have HEQ5 := lh (HEQ4.out.trans (Xae hR _))
            clear hwent hR
            go_wp2_with fail
            go_roundw
            case rel => exact ⟨j + 1, u5, T5, by omega, by go_num, HW5, HEQ5⟩
            case measure => simp [intOf]; omega
      · have hjn : j = n := by omega
        subst hjn
        have hdn : ps.drop j = [] := List.drop_of_length_le (by rw [HN.out]; exact Nat.le_refl _)
        have HEQ3 : Hid (adv T Q = adv T2 (some [[125]])) := lh (by rw [HEQ2.out, hdn, Xek, Xbh])
        clear hdn
        go_wp2_with fail
        refine (Xaq (Went.refl HW2.out.1) (Nat.le_trans hB HW2.out.2.2.size) [[125]] (by simp) (by simp)).mono ?_
        rintro e4 w4 hpost
        cases hR : adv T2 (some [[125]]) with
        | none =>
          rw [hR] at hpost
          obtain ⟨rfl, hch⟩ := hpost
          have HNO := lh (HEQ3.out.trans hR)
          have HCH := lh (HW2.out.fell hch)
          clear hR hch
          unfold boom
          go_wp2
          refine ⟨rfl, ?_⟩
          rw [HNO.out]
          exact ⟨rfl, HCH.out⟩
        | some T4 =>
          rw [hR] at hpost
          obtain ⟨rfl, u4, hwent⟩ := hpost
          have HW4 := lh (HW2.out.trans hwent)
          have HFIN := lh (HEQ3.out.trans hR)
          clear hwent hR
          go_wp2
          go_end0
          rw [HFIN.out]
          exact ⟨rfl, u4, HW4.out⟩
 · have h4' : decide ((n : Int) ≤ 8) = false := by rw [decide_eq_false_iff_not]; omega
   have HNO : Hid (adv T Q = none) := lh (by rw [hQ, Xag (by omega)]; rfl)
   clear hn hA h4 hp hb hQ
   unfold penV
   go_enter Tryz.func41, Tryz.ntmps41
   go_wp2_with fail
   refine (Xah _).mono ?_
   rintro e w1 ⟨rfl, rfl⟩
   unfold boom
   go_wp2
   refine ⟨rfl, ?_⟩
   rw [HNO.out]
   exact ⟨rfl, Chg.refl _ _⟩
theorem Xsp {ps : List Pr} {j : Nat} (h : j < ps.length) : Xdu (ps.drop j) j = cat (some (if j = 0 then [] else [[44]])) (cat (Xfw ps[j]) (Xdu (ps.drop (j + 1)) (j + 1))) := by
 rw [List.drop_eq_getElem_cons h, Xdu, Xbo]
set_option maxRecDepth 100000 in
set_option maxHeartbeats 2000000 in
theorem Xsm {w0 w : World} {Bc Ba B : Nat} {u : Value} {T : List (List UInt8)} (hb : Below B w0 w) (hB : B ≤ w.heap.size) (hp : Xap w Bc Ba B u T) (ps : List Pr) {V : Value} (hr : Xcl w0 (· < B) ps V) (hsm : ∀ p ∈ ps, p.name.length ≤ 40000 ∧ p.type.length ≤ 40000) :
  Calls Tryz.prog 44 #[penV Bc Ba, V] w (Xal w Bc Ba B u (adv T (need (ps.length ≤ 4) (cat (some [[40]]) (cat (Xdu ps 0) (some [[41]])))))) := by
 obtain ⟨A, c, rfl, hc, hM, hA⟩ := hr
 obtain ⟨n, hn⟩ : ∃ n, n = ps.length := ⟨_, rfl⟩
 obtain ⟨Q, hQ⟩ : ∃ Q : Ts, Q = need (ps.length ≤ 4) (cat (some [[40]]) (cat (Xdu ps 0) (some [[41]]))) := ⟨_, rfl⟩
 rw [← hn] at hc
 rw [← hQ, ← hn]
 by_cases h4 : n ≤ 4
 · have h4' : decide ((n : Int) ≤ 4) = true := by rw [decide_eq_true_eq]; omega
   have HEQ : Hid (adv T Q = adv T (cat (some [[40]]) (cat (Xdu ps 0) (some [[41]])))) := lh (by rw [hQ, Xai (by omega)])
   have HN := lh hn
   have HA := lh hA
   have HP := lh hp
   have HBB := lh hb
   have HSM := lh hsm
   unfold penV
   clear hn hA h4 hp hb hsm hQ
   go_enter Tryz.func44, Tryz.ntmps44
   go_wp2_with fail
   refine (Xaj _).mono ?_
   rintro e w1 ⟨rfl, rfl⟩
   go_wp2_with fail
   refine (Xaq (Went.refl HP.out) hB [[40]] (by simp) (by simp)).mono ?_
   rintro e1 w1 hpost
   cases hR : adv T (some [[40]]) with
   | none =>
     rw [hR] at hpost
     obtain ⟨rfl, hch⟩ := hpost
     have HNO := lh (HEQ.out.trans (Xad hR _))
     clear hR
     unfold boom
     go_wp2
     refine ⟨rfl, ?_⟩
     rw [HNO.out]
     exact ⟨rfl, hch⟩
   | some T1 =>
     rw [hR] at hpost
     obtain ⟨rfl, u1, hwent⟩ := hpost
     have HW1 := lh hwent
     have HEQ1 := lh (HEQ.out.trans (Xae hR _))
     clear hwent hR
     go_wp2_with fail
     go_loopw [15] (fun i wr => ∃ (j : Nat) (u' : Value) (T' : List (List UInt8)), j ≤ n ∧ i = .int .i64 j ∧ Hid (Went w Bc Ba B u wr u' T') ∧ Hid (adv T Q = adv T' (cat (Xdu (ps.drop j) j) (some [[41]])))) (fun i _ => n - (intOf i).toNat)
     case atStart => exact ⟨0, u1, T1, Nat.zero_le _, rfl, HW1, HEQ1⟩
     case round =>
      obtain ⟨wo, rfl⟩ : ∃ wo : World, wo = wr := ⟨_, rfl⟩
      obtain ⟨j, u2, T2, hj, rfl, HW2, HEQ2⟩ := hrel
      by_cases hlt : j < n
      · have hjt : j < ps.length := by rw [← HN.out]; exact hlt
        obtain ⟨b, off, rfl, hbB, _, _, r0, r1⟩ := HA.out j hjt
        have hbw : Below B w0 wo := HBB.out.trans (HW2.out.2.2.below hB (fun x hx => (HP.out.mine hx).1))
        have r0 := (hbw.cell (p := ⟨b, off + j * 2, none⟩) hbB).trans r0
        have r1 := (hbw.cell (p := ⟨b, off + j * 2 + 1, none⟩) hbB).trans r1
        obtain ⟨s1, s2⟩ := HSM.out ps[j] (List.getElem_mem _)
        have hdr := Xsp hjt
        obtain ⟨E, hE⟩ : ∃ E, E = ps[j] := ⟨_, rfl⟩
        rw [← hE] at r0 r1 hdr s1 s2
        clear hE
        obtain ⟨Y, hY⟩ : ∃ Y : World, Y = wo.alloc (.cells #[.string (Xaa E.name), .string (Xaa E.type)] 44) := ⟨_, rfl⟩
        have HW3 : Hid (Went w Bc Ba B u Y u2 T2) := lh (by rw [hY]; exact HW2.out.alloc _)
        have HY := lh hY
        have HS1 := lh s1
        have HS2 := lh s2
        obtain ⟨T3, hT3⟩ : ∃ T3, T3 = T2 := ⟨_, rfl⟩
        obtain ⟨u3, hu3⟩ : ∃ u3, u3 = u2 := ⟨_, rfl⟩
        rw [← hT3, ← hu3] at HW3
        obtain ⟨C, hC⟩ : ∃ C : Ts, C = some (if j = 0 then [] else [[44]]) := ⟨_, rfl⟩
        have HEQ3 : Hid (adv T Q = adv T3 (cat C (cat (Xfw E) (cat (Xdu (ps.drop (j + 1)) (j + 1)) (some [[41]]))))) := lh (by rw [HEQ2.out, hT3, hdr, ← hC, Xbo, Xbo])
        have HCM := lh (Xmq HW3.out.1 (Nat.le_trans hB HW3.out.2.2.size) j C hC)
        have hblk : Y.heap[wo.heap.size]? = some (.cells #[.string (Xaa E.name), .string (Xaa E.type)] 44 (0, 0)) := by rw [hY]; exact heap_alloc_new _ _
        have HBLK := lh hblk
        have HMN : Hid (∀ x, Mine Bc Ba u3 x → x < wo.heap.size) := lh (fun x hx => by rw [hu3] at hx; exact (HW2.out.1.mine hx).2)
        clear hY hdr hbw s1 s2 hT3 hu3 hC hblk
        unfold penV at HCM
        go_wp2_with fail
        rw [← HY.out]
        refine (HCM.out).mono ?_
        rintro e4 w4 hpost
        cases hR : adv T3 (C) with
        | none =>
          rw [hR] at hpost
          obtain ⟨rfl, hch⟩ := hpost
          have HNO := lh (HEQ3.out.trans (Xad hR _))
          have HCH := lh (HW3.out.fell hch)
          clear hR hch
          unfold boom
          go_wp2
          refine ⟨rfl, ?_⟩
          rw [HNO.out]
          exact ⟨rfl, HCH.out⟩
        | some T4 =>
          rw [hR] at hpost
          obtain ⟨rfl, u4, hwent⟩ := hpost
          have HW4 := lh (HW3.out.trans hwent)
          have HEQ4 := lh (HEQ3.out.trans (Xae hR _))
          have hb4 := (hwent.2.2.block _ (Xab HBLK.out) (fun hm => by have := HMN.out _ hm; omega)).trans HBLK.out
          have p0 := cell_of_row w4 wo.heap.size 0 _ _ (0, 0) hb4
          have p1 := cell_of_row w4 wo.heap.size 1 _ _ (0, 0) hb4
          simp at p0 p1
          clear hb4
          clear hwent hR
          have HPR := lh (Xvd HW4.out.1 (Nat.le_trans hB HW4.out.2.2.size) E HS1.out HS2.out)
          unfold penV at HPR
          go_wp2_with fail
          refine (HPR.out).mono ?_
          rintro e5 w5 hpost
          cases hR : adv T4 (Xfw E) with
          | none =>
            rw [hR] at hpost
            obtain ⟨rfl, hch⟩ := hpost
            have HNO := lh (HEQ4.out.trans (Xad hR _))
            have HCH := lh (HW4.out.fell hch)
            clear hR hch
            unfold boom
            go_wp2
            refine ⟨rfl, ?_⟩
            rw [HNO.out]
            exact ⟨rfl, HCH.out⟩
          | some T5 =>
            rw [hR] at hpost
            obtain ⟨rfl, u5, hwent⟩ := hpost
            have HW5 := lh (HW4.out.trans hwent)
            have HEQ5 := lh (HEQ4.out.trans (Xae hR _))
            clear hwent hR
            go_wp2_with fail
            go_roundw
            case rel => exact ⟨j + 1, u5, T5, by omega, by go_num, HW5, HEQ5⟩
            case measure => simp [intOf]; omega
      · have hjn : j = n := by omega
        subst hjn
        have hdn : ps.drop j = [] := List.drop_of_length_le (by rw [HN.out]; exact Nat.le_refl _)
        have HEQ3 : Hid (adv T Q = adv T2 (some [[41]])) := lh (by rw [HEQ2.out, hdn, Xdu, Xbh])
        clear hdn
        go_wp2_with fail
        refine (Xaq (Went.refl HW2.out.1) (Nat.le_trans hB HW2.out.2.2.size) [[41]] (by simp) (by simp)).mono ?_
        rintro e4 w4 hpost
        cases hR : adv T2 (some [[41]]) with
        | none =>
          rw [hR] at hpost
          obtain ⟨rfl, hch⟩ := hpost
          have HNO := lh (HEQ3.out.trans hR)
          have HCH := lh (HW2.out.fell hch)
          clear hR hch
          unfold boom
          go_wp2
          refine ⟨rfl, ?_⟩
          rw [HNO.out]
          exact ⟨rfl, HCH.out⟩
        | some T4 =>
          rw [hR] at hpost
          obtain ⟨rfl, u4, hwent⟩ := hpost
          have HW4 := lh (HW2.out.trans hwent)
          have HFIN := lh (HEQ3.out.trans hR)
          clear hwent hR
          go_wp2
          go_end0
          rw [HFIN.out]
          exact ⟨rfl, u4, HW4.out⟩
 · have h4' : decide ((n : Int) ≤ 4) = false := by rw [decide_eq_false_iff_not]; omega
   have HNO : Hid (adv T Q = none) := lh (by rw [hQ, Xag (by omega)]; rfl)
   clear hn hA h4 hp hb hQ
   unfold penV
   go_enter Tryz.func44, Tryz.ntmps44
   go_wp2_with fail
   refine (Xah _).mono ?_
   rintro e w1 ⟨rfl, rfl⟩
   unfold boom
   go_wp2
   refine ⟨rfl, ?_⟩
   rw [HNO.out]
   exact ⟨rfl, Chg.refl _ _⟩
section
def Xlq (ps : List Pr) : Ts := need (ps.length ≤ 8) (cat (some [[123]]) (cat (Xek ps) (some [[125]])))
def Xjm (ps : List Pr) : Ts := need (ps.length ≤ 4) (cat (some [[40]]) (cat (Xdu ps 0) (some [[41]])))
section
variable (p n : Int) (nm ty : List UInt8) (ps : List Pr) (bd : List Sm)
theorem Xfe {q : Prop} [Decidable q] (c : Ts) : need q c = cat c (need q (some [])) := by
 by_cases h : q
 · rw [Xai h, Xai h, Xeh]
 · rw [Xag h, Xag h, Xac]
theorem Xvg (d : Dc) (h : ¬ Xam d.name = true) : penD d = none := by unfold penD; rw [Xag h, Xan]
theorem penD_1 (h : Xam nm = true) : penD ⟨1, p, n, nm, ty, ps, bd⟩ = cat (some [Xbf 5, nm, [59]]) (need (n = 0 ∧ ty = [] ∧ ps.length = 0 ∧ bd.length = 0) (some [])) := by
 unfold penD; rw [Xai h, Xbh]; exact Xfe (q := n = 0 ∧ ty = [] ∧ ps.length = 0 ∧ bd.length = 0) _
theorem penD_5 (h : Xam nm = true) : penD ⟨5, p, n, nm, ty, ps, bd⟩ = cat (some [[105, 110, 112, 117, 116], nm, [59]]) (need (n = 0 ∧ ty = [] ∧ ps.length = 0 ∧ bd.length = 0) (some [])) := by
 unfold penD; rw [Xai h, Xbh]; exact Xfe (q := n = 0 ∧ ty = [] ∧ ps.length = 0 ∧ bd.length = 0) _
theorem penD_6 (h : Xam nm = true) : penD ⟨6, p, n, nm, ty, ps, bd⟩ = cat (some [[115, 105, 110, 107], nm, [59]]) (need (n = 0 ∧ ty = [] ∧ ps.length = 0 ∧ bd.length = 0) (some [])) := by
 unfold penD; rw [Xai h, Xbh]; exact Xfe (q := n = 0 ∧ ty = [] ∧ ps.length = 0 ∧ bd.length = 0) _
theorem penD_4 (h : Xam nm = true) : penD ⟨4, p, n, nm, ty, ps, bd⟩ = cat (some [Xbf 1, nm]) (cat (tyT ty) (cat (some [[59]]) (need (n = 0 ∧ ps.length = 0 ∧ bd.length = 0) (some [])))) := by
 unfold penD; rw [Xai h, Xbh]; exact (Xfe (q := n = 0 ∧ ps.length = 0 ∧ bd.length = 0) _).trans (by rw [Xbo, Xbo])
theorem penD_8 (h : Xam nm = true) : penD ⟨8, p, n, nm, ty, ps, bd⟩ = cat (some [[116, 104, 114, 101, 97, 100], nm]) (cat (penB bd 1) (need (n = 0 ∧ ty = [] ∧ ps.length = 0) (some []))) := by
 unfold penD; rw [Xai h, Xbh]; exact (Xfe (q := n = 0 ∧ ty = [] ∧ ps.length = 0) _).trans (by rw [Xbo])
theorem penD_2 (h : Xam nm = true) : penD ⟨2, p, n, nm, ty, ps, bd⟩ = cat (need (1 ≤ n ∧ n ≤ 4) (some [])) (cat (some [[99, 104, 97, 110], nm, Lib.itoa n, [59]]) (need (ty = [] ∧ ps.length = 0 ∧ bd.length = 0) (some []))) := by
 unfold penD; rw [Xai h, Xbh]
 show need (1 ≤ n ∧ n ≤ 4 ∧ ty = [] ∧ ps.length = 0 ∧ bd.length = 0) _ = _
 by_cases h1 : 1 ≤ n ∧ n ≤ 4
 · rw [Xaw h1, ← Xfe]
   by_cases h2 : ty = [] ∧ ps.length = 0 ∧ bd.length = 0
   · rw [Xai h2, Xai ⟨h1.1, h1.2, h2⟩]
   · rw [Xag h2, Xag (fun e => h2 e.2.2)]
 · rw [Xaz h1, Xag (fun e => h1 ⟨e.1, e.2.1⟩)]
theorem penD_3 (h : Xam nm = true) : penD ⟨3, p, n, nm, ty, ps, bd⟩ = cat (some [[115, 116, 114, 117, 99, 116], nm]) (cat (Xlq ps) (need (n = 0 ∧ ty = [] ∧ bd.length = 0) (some []))) := by
 unfold penD Xlq; rw [Xai h, Xbh]
 show need (n = 0 ∧ ty = [] ∧ ps.length ≤ 8 ∧ bd.length = 0) _ = _
 by_cases h1 : ps.length ≤ 8
 · rw [Xai h1]
   by_cases h2 : n = 0 ∧ ty = [] ∧ bd.length = 0
   · rw [Xai h2, Xai ⟨h2.1, h2.2.1, h1, h2.2.2⟩, Xeh]
     show cat (cat (some [_, _]) (some [_])) _ = _
     rw [Xbo]
   · rw [Xag h2, Xag (fun e => h2 ⟨e.1, e.2.1, e.2.2.2⟩), Xac, Xac]
 · rw [Xag h1, Xag (fun e => h1 e.2.2.1), Xan, Xac]
theorem penD_7 (h : Xam nm = true) : penD ⟨7, p, n, nm, ty, ps, bd⟩ = cat (some [[102, 117, 110, 99], nm]) (cat (Xjm ps) (cat (if ty = [] then some [] else tyT ty) (cat (penB bd 1) (need (n = 0) (some []))))) := by
 unfold penD Xjm; rw [Xai h, Xbh]
 show need (n = 0 ∧ ps.length ≤ 4) _ = _
 by_cases h1 : ps.length ≤ 4
 · rw [Xai h1]
   by_cases h2 : n = 0
   · rw [Xai h2, Xai ⟨h2, h1⟩, Xeh]
     show cat (cat (some [_, _]) (some [_])) _ = _
     rw [Xbo, Xbo, Xbo]
   · rw [Xag h2, Xag (fun e => h2 e.1), Xac, Xac, Xac, Xac]
 · rw [Xag h1, Xag (fun e => h1 e.2), Xan, Xac]
theorem Xve (k : Int) (hk : k < 1 ∨ 8 < k) : penD ⟨k, p, n, nm, ty, ps, bd⟩ = none := by
 unfold penD
 show cat _ (if k = 1 then _ else _) = _
 rw [if_neg (show ¬ k = 1 by omega), if_neg (show ¬ k = 2 by omega), if_neg (show ¬ k = 3 by omega), if_neg (show ¬ k = 4 by omega), if_neg (show ¬ k = 5 by omega), if_neg (show ¬ k = 6 by omega), if_neg (show ¬ k = 7 by omega), if_neg (show ¬ k = 8 by omega), Xac]
end
section
variable {w w' : World} {g : Nat} {k p u : Int} {n t : ByteArray} {a b : Value}
theorem Xar.lt (h : Xar w g k p u n t a b) : g < w.heap.size := Xab h
theorem Xar.frz (h : Xar w g k p u n t a b) (j : Nat) : w.frozen? ⟨g, j, none⟩ = false := frozen_of_row w g j _ _ h
theorem Xar.s2 (h : Xar w g k p u n t a b) (x : Int) : Xar (w.setCell ⟨g, 2, none⟩ (.int .i64 x)) g k p x n t a b := by
 unfold Xar at h ⊢; simp [World.setCell, Array.getElem?_modify, h]
theorem Xar.s3 (h : Xar w g k p u n t a b) (x : ByteArray) : Xar (w.setCell ⟨g, 3, none⟩ (.string x)) g k p u x t a b := by
 unfold Xar at h ⊢; simp [World.setCell, Array.getElem?_modify, h]
theorem Xar.s4 (h : Xar w g k p u n t a b) (x : ByteArray) : Xar (w.setCell ⟨g, 4, none⟩ (.string x)) g k p u n x a b := by
 unfold Xar at h ⊢; simp [World.setCell, Array.getElem?_modify, h]
theorem Xar.s5 (h : Xar w g k p u n t a b) (x : Value) : Xar (w.setCell ⟨g, 5, none⟩ x) g k p u n t x b := by
 unfold Xar at h ⊢; simp [World.setCell, Array.getElem?_modify, h]
theorem Xar.s6 (h : Xar w g k p u n t a b) (x : Value) : Xar (w.setCell ⟨g, 6, none⟩ x) g k p u n t a x := by
 unfold Xar at h ⊢; simp [World.setCell, Array.getElem?_modify, h]
theorem Xar.apart {Bc Ba B : Nat} {v : Value} {T : List (List UInt8)} (h : Xar w g k p u n t a b) (hp : Xap w Bc Ba B v T) (h1 : Bc < g) (h2 : Ba < g) : ¬ Mine Bc Ba v g := by
 rintro (e | e | e)
 · omega
 · omega
 · obtain ⟨_, cur, hg⟩ := hp.own.blk e
   unfold Xar at h; rw [h] at hg; simp at hg
theorem Xar.went {w1 : World} {Bc Ba B : Nat} {v v1 : Value} {T T1 : List (List UInt8)} (h : Xar w g k p u n t a b) (hp : Xap w Bc Ba B v T) (h1 : Bc < g) (h2 : Ba < g) (hw : Went w Bc Ba B v w1 v1 T1) : Xar w1 g k p u n t a b :=
 (hw.2.2.block g h.lt (h.apart hp h1 h2)).trans h
end
end
set_option maxRecDepth 100000 in
set_option maxHeartbeats 4000000 in
theorem decl_1 {w0 w : World} {Bc Ba B : Nat} {u : Value} {T : List (List UInt8)} {p n : Int} {nm ty : List UInt8} {ps : List Pr} {bd : List Sm} {vp vb : Value} (htab : Tab B w0) (hb : Below B w0 w) (hB : B ≤ w.heap.size) (hp : Xap w Bc Ba B u T) (hnl : nm.length ≤ 40000) (htl : ty.length ≤ 40000)
  (hps : Xcl w0 (· < B) ps vp) (hsm : ∀ p ∈ ps, p.name.length ≤ 40000 ∧ p.type.length ≤ 40000) (hbd : Xao w0 B bd vb) (hbs : ∃ A c, vb = .slice A bd.length c) (hq : Xam nm = true) :
  Calls Tryz.prog 29 #[penV Bc Ba, .agg #[.int .i64 1, .int .i64 p, .int .i64 n, .string (Xaa nm), .string (Xaa ty), vp, vb]] w (Xal w Bc Ba B u (adv T (penD ⟨1, p, n, nm, ty, ps, bd⟩))) := by
 obtain ⟨Ap, cp, hvp, _, _, _⟩ := id hps
 subst hvp
 obtain ⟨Ab, cb, hvb⟩ := hbs
 subst hvb
 obtain ⟨X, hX⟩ : ∃ X : World, X = w.alloc (.cells #[.int .i64 1, .int .i64 p, .int .i64 n, .string (Xaa nm), .string (Xaa ty), .slice Ap ps.length cp, .slice Ab bd.length cb] 41) := ⟨_, rfl⟩
 obtain ⟨g, hg⟩ : ∃ g, g = w.heap.size := ⟨_, rfl⟩
 have hd : Xar X g 1 p n (Xaa nm) (Xaa ty) (.slice Ap ps.length cp) (.slice Ab bd.length cb) := by rw [hX, hg]; exact Xar.new _ _ _ _ _ _ _ _
 have hw : Went w Bc Ba B u X u T := by rw [hX]; exact (Went.refl hp).alloc _
 have hg1 : Bc < g := by rw [hg]; exact Xab hp.cnt
 have hg2 : Ba < g := by rw [hg]; exact Xab hp.buf
 have hwg : w.heap.size ≤ g := by rw [hg]; exact Nat.le_refl _
 have hsz : (Xaa nm).size ≤ 40000 := by rw [Lib.size_eq, Xak]; exact hnl
 have HX := lh hX
 have HG := lh hg
 have HD := lh hd
 have HW := lh hw
 have HPS := lh hps
 have HSM := lh hsm
 clear hX hg hd hw hps hsm
 have HEQ := lh (congrArg (adv T) (penD_1 p n nm ty ps bd hq))
 have HTN := lh (Xba ⟨g, 3, none⟩ (Xaa nm) X HD.out.c3 (HD.out.frz 3) hsz hq)
 unfold penV
 go_enter Tryz.func29, Tryz.ntmps29
 go_wp2_with fail
 rw [← HX.out, ← HG.out]
 refine HTN.out.mono ?_
 rintro e1 w1 ⟨rfl, wm, hbl, hw1⟩
 have HW1 : Hid (Went w Bc Ba B u w1 u T) := lh (by rw [hw1]; exact (HW.out.below hbl).setCell _ _ hwg ((HD.out).apart (HW.out).1 hg1 hg2))
 have HD1 := lh (show Xar w1 g 1 p n (Xaa []) (Xaa ty) (.slice Ap ps.length cp) (.slice Ab bd.length cb) from by rw [hw1]; exact (HD.out.below hbl HD.out.lt).s3 _)
 clear hbl hw1
 have a2 := (HD1.out).c0
 go_wp2_with fail
 refine (Xaq (Went.refl (HW1.out).1) (Nat.le_trans hB (HW1.out).2.2.size) [Xbf 5, nm, [59]] (by intro t ht; simp at ht; have := hnl; have := htl; first | (rcases ht with rfl | rfl | rfl | rfl <;> first | decide | assumption | simp) | (rcases ht with rfl | rfl | rfl <;> first | decide | assumption | simp) | (rcases ht with rfl | rfl <;> first | decide | assumption | simp) | (rw [ht]; first | decide | assumption) | (rw [ht]; simp)) (by simp)).mono ?_
 rintro e3 w3 hpost
 cases hR : adv T (some [Xbf 5, nm, [59]]) with
 | none =>
   rw [hR] at hpost
   obtain ⟨rfl, hch⟩ := hpost
   have HNO := lh ((HEQ.out).trans (Xad hR _))
   have HCH := lh ((HW1.out).fell hch)
   clear hR hch
   unfold boom
   go_wp2
   refine ⟨rfl, ?_⟩
   rw [HNO.out]
   exact ⟨rfl, HCH.out⟩
 | some T3 =>
   rw [hR] at hpost
   obtain ⟨rfl, u3, hwent⟩ := hpost
   have HW3 := lh ((HW1.out).trans hwent)
   have HD3 := lh ((HD1.out).went (HW1.out).1 hg1 hg2 hwent)
   have HEQ3 := lh ((HEQ.out).trans (Xae hR _))
   clear hwent hR
   have c2 := (HD3.out).c2
   have c4 := (HD3.out).c4
   have c5 := (HD3.out).c5
   have c6 := (HD3.out).c6
   have hz0 : (Xaa []).toList = [] := Xaf []
   obtain ⟨nx, hnx⟩ : ∃ m, m = ps.length := ⟨_, rfl⟩
   rw [← hnx] at c5
   obtain ⟨nb, hnb⟩ : ∃ m, m = bd.length := ⟨_, rfl⟩
   rw [← hnb] at c6
   by_cases hn : n = 0
   case neg =>
    have HNO := lh ((HEQ3.out).trans (show adv T3 (need _ (some [])) = none from by rw [Xag (fun h => hn h.1)]; rfl))
    have hs1 : (n == 0) = false := by rw [beq_eq_false_iff_ne]; exact hn
    clear hnx hnb hn
    go_wp2_with fail
    refine (Xah _).mono ?_
    rintro e9 w9 ⟨rfl, rfl⟩
    unfold boom
    go_wp2
    refine ⟨rfl, ?_⟩
    rw [HNO.out]
    exact ⟨rfl, (HW3.out).2.2⟩
   by_cases ht : ty = []
   case neg =>
    have HNO := lh ((HEQ3.out).trans (show adv T3 (need _ (some [])) = none from by rw [Xag (fun h => ht h.2.1)]; rfl))
    subst hn
    have hs1 : ¬ (Xaa ty).toList = [] := by rw [Xaf]; exact ht
    clear hnx hnb ht
    go_wp2_with fail
    refine (Xah _).mono ?_
    rintro e9 w9 ⟨rfl, rfl⟩
    unfold boom
    go_wp2
    refine ⟨rfl, ?_⟩
    rw [HNO.out]
    exact ⟨rfl, (HW3.out).2.2⟩
   by_cases hx : ps.length = 0
   case neg =>
    have HNO := lh ((HEQ3.out).trans (show adv T3 (need _ (some [])) = none from by rw [Xag (fun h => hx h.2.2.1)]; rfl))
    subst hn
    subst ht
    have hl1 : (nx == 0) = false := by rw [beq_eq_false_iff_ne]; omega
    have hl2 : ((nx : Int) == 0) = false := by rw [beq_eq_false_iff_ne]; omega
    clear hnx hnb hx
    go_wp2_with fail
    refine (Xah _).mono ?_
    rintro e9 w9 ⟨rfl, rfl⟩
    unfold boom
    go_wp2
    refine ⟨rfl, ?_⟩
    rw [HNO.out]
    exact ⟨rfl, (HW3.out).2.2⟩
   by_cases hbl0 : bd.length = 0
   case neg =>
    have HNO := lh ((HEQ3.out).trans (show adv T3 (need _ (some [])) = none from by rw [Xag (fun h => hbl0 h.2.2.2)]; rfl))
    subst hn
    subst ht
    obtain rfl : nx = 0 := by omega
    have hl1 : (nb == 0) = false := by rw [beq_eq_false_iff_ne]; omega
    have hl2 : ((nb : Int) == 0) = false := by rw [beq_eq_false_iff_ne]; omega
    clear hnx hnb hx hbl0
    go_wp2_with fail
    refine (Xah _).mono ?_
    rintro e9 w9 ⟨rfl, rfl⟩
    unfold boom
    go_wp2
    refine ⟨rfl, ?_⟩
    rw [HNO.out]
    exact ⟨rfl, (HW3.out).2.2⟩
   have HFIN := lh ((HEQ3.out).trans (show adv T3 (need _ (some [])) = some T3 from by rw [Xai ⟨hn, ht, hx, hbl0⟩]; exact Xbe (HW3.out).1.fit))
   subst hn
   subst ht
   obtain rfl : nx = 0 := by omega
   obtain rfl : nb = 0 := by omega
   clear hnx hnb hx hbl0
   go_wp2_with fail
   refine (Xaj _).mono ?_
   rintro e9 w9 ⟨rfl, rfl⟩
   go_wp2
   go_end0
   rw [HFIN.out]
   exact ⟨rfl, _, HW3.out⟩
set_option maxRecDepth 100000 in
set_option maxHeartbeats 4000000 in
theorem Xop {w0 w : World} {Bc Ba B : Nat} {u : Value} {T : List (List UInt8)} {p n : Int} {nm ty : List UInt8} {ps : List Pr} {bd : List Sm} {vp vb : Value} (htab : Tab B w0) (hb : Below B w0 w) (hB : B ≤ w.heap.size) (hp : Xap w Bc Ba B u T) (hnl : nm.length ≤ 40000) (htl : ty.length ≤ 40000)
  (hps : Xcl w0 (· < B) ps vp) (hsm : ∀ p ∈ ps, p.name.length ≤ 40000 ∧ p.type.length ≤ 40000) (hbd : Xao w0 B bd vb) (hbs : ∃ A c, vb = .slice A bd.length c) {k : Int} (hq : ¬ Xam nm = true) :
  Calls Tryz.prog 29 #[penV Bc Ba, .agg #[.int .i64 k, .int .i64 p, .int .i64 n, .string (Xaa nm), .string (Xaa ty), vp, vb]] w (Xal w Bc Ba B u (adv T (penD ⟨k, p, n, nm, ty, ps, bd⟩))) := by
 obtain ⟨Ap, cp, hvp, _, _, _⟩ := id hps
 subst hvp
 obtain ⟨Ab, cb, hvb⟩ := hbs
 subst hvb
 obtain ⟨X, hX⟩ : ∃ X : World, X = w.alloc (.cells #[.int .i64 k, .int .i64 p, .int .i64 n, .string (Xaa nm), .string (Xaa ty), .slice Ap ps.length cp, .slice Ab bd.length cb] 41) := ⟨_, rfl⟩
 obtain ⟨g, hg⟩ : ∃ g, g = w.heap.size := ⟨_, rfl⟩
 have hd : Xar X g k p n (Xaa nm) (Xaa ty) (.slice Ap ps.length cp) (.slice Ab bd.length cb) := by rw [hX, hg]; exact Xar.new _ _ _ _ _ _ _ _
 have hw : Went w Bc Ba B u X u T := by rw [hX]; exact (Went.refl hp).alloc _
 have hg1 : Bc < g := by rw [hg]; exact Xab hp.cnt
 have hg2 : Ba < g := by rw [hg]; exact Xab hp.buf
 have hwg : w.heap.size ≤ g := by rw [hg]; exact Nat.le_refl _
 have hsz : (Xaa nm).size ≤ 40000 := by rw [Lib.size_eq, Xak]; exact hnl
 have HX := lh hX
 have HG := lh hg
 have HD := lh hd
 have HW := lh hw
 have HPS := lh hps
 have HSM := lh hsm
 clear hX hg hd hw hps hsm
 have HNO := lh (congrArg (adv T) (Xvg ⟨k, p, n, nm, ty, ps, bd⟩ hq))
 have HTN := lh (Xdf ⟨g, 3, none⟩ (Xaa nm) X HD.out.c3 hsz (by simpa [Xak] using hq))
 unfold penV
 go_enter Tryz.func29, Tryz.ntmps29
 go_wp2_with fail
 rw [← HX.out, ← HG.out]
 refine HTN.out.mono ?_
 rintro e8 w8 ⟨rfl, hbl⟩
 have HCH := lh (HW.out.2.2.trans (Chg.of_below (P := fun _ => False) hbl) (fun _ _ e => e.elim))
 unfold boom
 go_wp2
 refine ⟨rfl, ?_⟩
 rw [HNO.out]
 exact ⟨rfl, HCH.out⟩
set_option maxRecDepth 100000 in
set_option maxHeartbeats 4000000 in
theorem Xuh {w0 w : World} {Bc Ba B : Nat} {u : Value} {T : List (List UInt8)} {p n : Int} {nm ty : List UInt8} {ps : List Pr} {bd : List Sm} {vp vb : Value} (htab : Tab B w0) (hb : Below B w0 w) (hB : B ≤ w.heap.size) (hp : Xap w Bc Ba B u T) (hnl : nm.length ≤ 40000) (htl : ty.length ≤ 40000)
  (hps : Xcl w0 (· < B) ps vp) (hsm : ∀ p ∈ ps, p.name.length ≤ 40000 ∧ p.type.length ≤ 40000) (hbd : Xao w0 B bd vb) (hbs : ∃ A c, vb = .slice A bd.length c) (hq : Xam nm = true) {k : Int} (hk : k < 1 ∨ 8 < k) :
  Calls Tryz.prog 29 #[penV Bc Ba, .agg #[.int .i64 k, .int .i64 p, .int .i64 n, .string (Xaa nm), .string (Xaa ty), vp, vb]] w (Xal w Bc Ba B u (adv T (penD ⟨k, p, n, nm, ty, ps, bd⟩))) := by
 obtain ⟨Ap, cp, hvp, _, _, _⟩ := id hps
 subst hvp
 obtain ⟨Ab, cb, hvb⟩ := hbs
 subst hvb
 obtain ⟨X, hX⟩ : ∃ X : World, X = w.alloc (.cells #[.int .i64 k, .int .i64 p, .int .i64 n, .string (Xaa nm), .string (Xaa ty), .slice Ap ps.length cp, .slice Ab bd.length cb] 41) := ⟨_, rfl⟩
 obtain ⟨g, hg⟩ : ∃ g, g = w.heap.size := ⟨_, rfl⟩
 have hd : Xar X g k p n (Xaa nm) (Xaa ty) (.slice Ap ps.length cp) (.slice Ab bd.length cb) := by rw [hX, hg]; exact Xar.new _ _ _ _ _ _ _ _
 have hw : Went w Bc Ba B u X u T := by rw [hX]; exact (Went.refl hp).alloc _
 have hg1 : Bc < g := by rw [hg]; exact Xab hp.cnt
 have hg2 : Ba < g := by rw [hg]; exact Xab hp.buf
 have hwg : w.heap.size ≤ g := by rw [hg]; exact Nat.le_refl _
 have hsz : (Xaa nm).size ≤ 40000 := by rw [Lib.size_eq, Xak]; exact hnl
 have HX := lh hX
 have HG := lh hg
 have HD := lh hd
 have HW := lh hw
 have HPS := lh hps
 have HSM := lh hsm
 clear hX hg hd hw hps hsm
 have HEQ := lh (congrArg (adv T) (Xve p n nm ty ps bd k hk))
 have e1k : (k == 1) = false := by rw [beq_eq_false_iff_ne]; omega
 have e2k : (k == 2) = false := by rw [beq_eq_false_iff_ne]; omega
 have e3k : (k == 3) = false := by rw [beq_eq_false_iff_ne]; omega
 have e4k : (k == 4) = false := by rw [beq_eq_false_iff_ne]; omega
 have e5k : (k == 5) = false := by rw [beq_eq_false_iff_ne]; omega
 have e6k : (k == 6) = false := by rw [beq_eq_false_iff_ne]; omega
 have e7k : (k == 7) = false := by rw [beq_eq_false_iff_ne]; omega
 have e8k : (k == 8) = false := by rw [beq_eq_false_iff_ne]; omega
 clear hk
 have HTN := lh (Xba ⟨g, 3, none⟩ (Xaa nm) X HD.out.c3 (HD.out.frz 3) hsz hq)
 unfold penV
 go_enter Tryz.func29, Tryz.ntmps29
 go_wp2_with fail
 rw [← HX.out, ← HG.out]
 refine HTN.out.mono ?_
 rintro e1 w1 ⟨rfl, wm, hbl, hw1⟩
 have HW1 : Hid (Went w Bc Ba B u w1 u T) := lh (by rw [hw1]; exact (HW.out.below hbl).setCell _ _ hwg ((HD.out).apart (HW.out).1 hg1 hg2))
 have HD1 := lh (show Xar w1 g k p n (Xaa []) (Xaa ty) (.slice Ap ps.length cp) (.slice Ab bd.length cb) from by rw [hw1]; exact (HD.out.below hbl HD.out.lt).s3 _)
 clear hbl hw1
 have a2 := (HD1.out).c0
 go_wp2_with fail
 have HNO := HEQ
 refine (Xah _).mono ?_
 rintro e8 w8 ⟨rfl, rfl⟩
 have HCH := lh ((HW1.out).2.2)
 unfold boom
 go_wp2
 refine ⟨rfl, ?_⟩
 rw [HNO.out]
 exact ⟨rfl, HCH.out⟩
set_option maxRecDepth 100000 in
set_option maxHeartbeats 4000000 in
theorem decl_5 {w0 w : World} {Bc Ba B : Nat} {u : Value} {T : List (List UInt8)} {p n : Int} {nm ty : List UInt8} {ps : List Pr} {bd : List Sm} {vp vb : Value} (htab : Tab B w0) (hb : Below B w0 w) (hB : B ≤ w.heap.size) (hp : Xap w Bc Ba B u T) (hnl : nm.length ≤ 40000) (htl : ty.length ≤ 40000)
  (hps : Xcl w0 (· < B) ps vp) (hsm : ∀ p ∈ ps, p.name.length ≤ 40000 ∧ p.type.length ≤ 40000) (hbd : Xao w0 B bd vb) (hbs : ∃ A c, vb = .slice A bd.length c) (hq : Xam nm = true) :
  Calls Tryz.prog 29 #[penV Bc Ba, .agg #[.int .i64 5, .int .i64 p, .int .i64 n, .string (Xaa nm), .string (Xaa ty), vp, vb]] w (Xal w Bc Ba B u (adv T (penD ⟨5, p, n, nm, ty, ps, bd⟩))) := by
 obtain ⟨Ap, cp, hvp, _, _, _⟩ := id hps
 subst hvp
 obtain ⟨Ab, cb, hvb⟩ := hbs
 subst hvb
 obtain ⟨X, hX⟩ : ∃ X : World, X = w.alloc (.cells #[.int .i64 5, .int .i64 p, .int .i64 n, .string (Xaa nm), .string (Xaa ty), .slice Ap ps.length cp, .slice Ab bd.length cb] 41) := ⟨_, rfl⟩
 obtain ⟨g, hg⟩ : ∃ g, g = w.heap.size := ⟨_, rfl⟩
 have hd : Xar X g 5 p n (Xaa nm) (Xaa ty) (.slice Ap ps.length cp) (.slice Ab bd.length cb) := by rw [hX, hg]; exact Xar.new _ _ _ _ _ _ _ _
 have hw : Went w Bc Ba B u X u T := by rw [hX]; exact (Went.refl hp).alloc _
 have hg1 : Bc < g := by rw [hg]; exact Xab hp.cnt
 have hg2 : Ba < g := by rw [hg]; exact Xab hp.buf
 have hwg : w.heap.size ≤ g := by rw [hg]; exact Nat.le_refl _
 have hsz : (Xaa nm).size ≤ 40000 := by rw [Lib.size_eq, Xak]; exact hnl
 have HX := lh hX
 have HG := lh hg
 have HD := lh hd
 have HW := lh hw
 have HPS := lh hps
 have HSM := lh hsm
 clear hX hg hd hw hps hsm
 have HEQ := lh (congrArg (adv T) (penD_5 p n nm ty ps bd hq))
 have HTN := lh (Xba ⟨g, 3, none⟩ (Xaa nm) X HD.out.c3 (HD.out.frz 3) hsz hq)
 unfold penV
 go_enter Tryz.func29, Tryz.ntmps29
 go_wp2_with fail
 rw [← HX.out, ← HG.out]
 refine HTN.out.mono ?_
 rintro e1 w1 ⟨rfl, wm, hbl, hw1⟩
 have HW1 : Hid (Went w Bc Ba B u w1 u T) := lh (by rw [hw1]; exact (HW.out.below hbl).setCell _ _ hwg ((HD.out).apart (HW.out).1 hg1 hg2))
 have HD1 := lh (show Xar w1 g 5 p n (Xaa []) (Xaa ty) (.slice Ap ps.length cp) (.slice Ab bd.length cb) from by rw [hw1]; exact (HD.out.below hbl HD.out.lt).s3 _)
 clear hbl hw1
 have a2 := (HD1.out).c0
 go_wp2_with fail
 refine (Xaq (Went.refl (HW1.out).1) (Nat.le_trans hB (HW1.out).2.2.size) [[105, 110, 112, 117, 116], nm, [59]] (by intro t ht; simp at ht; have := hnl; have := htl; first | (rcases ht with rfl | rfl | rfl | rfl <;> first | decide | assumption | simp) | (rcases ht with rfl | rfl | rfl <;> first | decide | assumption | simp) | (rcases ht with rfl | rfl <;> first | decide | assumption | simp) | (rw [ht]; first | decide | assumption) | (rw [ht]; simp)) (by simp)).mono ?_
 rintro e3 w3 hpost
 cases hR : adv T (some [[105, 110, 112, 117, 116], nm, [59]]) with
 | none =>
   rw [hR] at hpost
   obtain ⟨rfl, hch⟩ := hpost
   have HNO := lh ((HEQ.out).trans (Xad hR _))
   have HCH := lh ((HW1.out).fell hch)
   clear hR hch
   unfold boom
   go_wp2
   refine ⟨rfl, ?_⟩
   rw [HNO.out]
   exact ⟨rfl, HCH.out⟩
 | some T3 =>
   rw [hR] at hpost
   obtain ⟨rfl, u3, hwent⟩ := hpost
   have HW3 := lh ((HW1.out).trans hwent)
   have HD3 := lh ((HD1.out).went (HW1.out).1 hg1 hg2 hwent)
   have HEQ3 := lh ((HEQ.out).trans (Xae hR _))
   clear hwent hR
   have c2 := (HD3.out).c2
   have c4 := (HD3.out).c4
   have c5 := (HD3.out).c5
   have c6 := (HD3.out).c6
   have hz0 : (Xaa []).toList = [] := Xaf []
   obtain ⟨nx, hnx⟩ : ∃ m, m = ps.length := ⟨_, rfl⟩
   rw [← hnx] at c5
   obtain ⟨nb, hnb⟩ : ∃ m, m = bd.length := ⟨_, rfl⟩
   rw [← hnb] at c6
   by_cases hn : n = 0
   case neg =>
    have HNO := lh ((HEQ3.out).trans (show adv T3 (need _ (some [])) = none from by rw [Xag (fun h => hn h.1)]; rfl))
    have hs1 : (n == 0) = false := by rw [beq_eq_false_iff_ne]; exact hn
    clear hnx hnb hn
    go_wp2_with fail
    refine (Xah _).mono ?_
    rintro e9 w9 ⟨rfl, rfl⟩
    unfold boom
    go_wp2
    refine ⟨rfl, ?_⟩
    rw [HNO.out]
    exact ⟨rfl, (HW3.out).2.2⟩
   by_cases ht : ty = []
   case neg =>
    have HNO := lh ((HEQ3.out).trans (show adv T3 (need _ (some [])) = none from by rw [Xag (fun h => ht h.2.1)]; rfl))
    subst hn
    have hs1 : ¬ (Xaa ty).toList = [] := by rw [Xaf]; exact ht
    clear hnx hnb ht
    go_wp2_with fail
    refine (Xah _).mono ?_
    rintro e9 w9 ⟨rfl, rfl⟩
    unfold boom
    go_wp2
    refine ⟨rfl, ?_⟩
    rw [HNO.out]
    exact ⟨rfl, (HW3.out).2.2⟩
   by_cases hx : ps.length = 0
   case neg =>
    have HNO := lh ((HEQ3.out).trans (show adv T3 (need _ (some [])) = none from by rw [Xag (fun h => hx h.2.2.1)]; rfl))
    subst hn
    subst ht
    have hl1 : (nx == 0) = false := by rw [beq_eq_false_iff_ne]; omega
    have hl2 : ((nx : Int) == 0) = false := by rw [beq_eq_false_iff_ne]; omega
    clear hnx hnb hx
    go_wp2_with fail
    refine (Xah _).mono ?_
    rintro e9 w9 ⟨rfl, rfl⟩
    unfold boom
    go_wp2
    refine ⟨rfl, ?_⟩
    rw [HNO.out]
    exact ⟨rfl, (HW3.out).2.2⟩
   by_cases hbl0 : bd.length = 0
   case neg =>
    have HNO := lh ((HEQ3.out).trans (show adv T3 (need _ (some [])) = none from by rw [Xag (fun h => hbl0 h.2.2.2)]; rfl))
    subst hn
    subst ht
    obtain rfl : nx = 0 := by omega
    have hl1 : (nb == 0) = false := by rw [beq_eq_false_iff_ne]; omega
    have hl2 : ((nb : Int) == 0) = false := by rw [beq_eq_false_iff_ne]; omega
    clear hnx hnb hx hbl0
    go_wp2_with fail
    refine (Xah _).mono ?_
    rintro e9 w9 ⟨rfl, rfl⟩
    unfold boom
    go_wp2
    refine ⟨rfl, ?_⟩
    rw [HNO.out]
    exact ⟨rfl, (HW3.out).2.2⟩
   have HFIN := lh ((HEQ3.out).trans (show adv T3 (need _ (some [])) = some T3 from by rw [Xai ⟨hn, ht, hx, hbl0⟩]; exact Xbe (HW3.out).1.fit))
   subst hn
   subst ht
   obtain rfl : nx = 0 := by omega
   obtain rfl : nb = 0 := by omega
   clear hnx hnb hx hbl0
   go_wp2_with fail
   refine (Xaj _).mono ?_
   rintro e9 w9 ⟨rfl, rfl⟩
   go_wp2
   go_end0
   rw [HFIN.out]
   exact ⟨rfl, _, HW3.out⟩
set_option maxRecDepth 100000 in
set_option maxHeartbeats 4000000 in
theorem decl_6 {w0 w : World} {Bc Ba B : Nat} {u : Value} {T : List (List UInt8)} {p n : Int} {nm ty : List UInt8} {ps : List Pr} {bd : List Sm} {vp vb : Value} (htab : Tab B w0) (hb : Below B w0 w) (hB : B ≤ w.heap.size) (hp : Xap w Bc Ba B u T) (hnl : nm.length ≤ 40000) (htl : ty.length ≤ 40000)
  (hps : Xcl w0 (· < B) ps vp) (hsm : ∀ p ∈ ps, p.name.length ≤ 40000 ∧ p.type.length ≤ 40000) (hbd : Xao w0 B bd vb) (hbs : ∃ A c, vb = .slice A bd.length c) (hq : Xam nm = true) :
  Calls Tryz.prog 29 #[penV Bc Ba, .agg #[.int .i64 6, .int .i64 p, .int .i64 n, .string (Xaa nm), .string (Xaa ty), vp, vb]] w (Xal w Bc Ba B u (adv T (penD ⟨6, p, n, nm, ty, ps, bd⟩))) := by
 obtain ⟨Ap, cp, hvp, _, _, _⟩ := id hps
 subst hvp
 obtain ⟨Ab, cb, hvb⟩ := hbs
 subst hvb
 obtain ⟨X, hX⟩ : ∃ X : World, X = w.alloc (.cells #[.int .i64 6, .int .i64 p, .int .i64 n, .string (Xaa nm), .string (Xaa ty), .slice Ap ps.length cp, .slice Ab bd.length cb] 41) := ⟨_, rfl⟩
 obtain ⟨g, hg⟩ : ∃ g, g = w.heap.size := ⟨_, rfl⟩
 have hd : Xar X g 6 p n (Xaa nm) (Xaa ty) (.slice Ap ps.length cp) (.slice Ab bd.length cb) := by rw [hX, hg]; exact Xar.new _ _ _ _ _ _ _ _
 have hw : Went w Bc Ba B u X u T := by rw [hX]; exact (Went.refl hp).alloc _
 have hg1 : Bc < g := by rw [hg]; exact Xab hp.cnt
 have hg2 : Ba < g := by rw [hg]; exact Xab hp.buf
 have hwg : w.heap.size ≤ g := by rw [hg]; exact Nat.le_refl _
 have hsz : (Xaa nm).size ≤ 40000 := by rw [Lib.size_eq, Xak]; exact hnl
 have HX := lh hX
 have HG := lh hg
 have HD := lh hd
 have HW := lh hw
 have HPS := lh hps
 have HSM := lh hsm
 clear hX hg hd hw hps hsm
 have HEQ := lh (congrArg (adv T) (penD_6 p n nm ty ps bd hq))
 have HTN := lh (Xba ⟨g, 3, none⟩ (Xaa nm) X HD.out.c3 (HD.out.frz 3) hsz hq)
 unfold penV
 go_enter Tryz.func29, Tryz.ntmps29
 go_wp2_with fail
 rw [← HX.out, ← HG.out]
 refine HTN.out.mono ?_
 rintro e1 w1 ⟨rfl, wm, hbl, hw1⟩
 have HW1 : Hid (Went w Bc Ba B u w1 u T) := lh (by rw [hw1]; exact (HW.out.below hbl).setCell _ _ hwg ((HD.out).apart (HW.out).1 hg1 hg2))
 have HD1 := lh (show Xar w1 g 6 p n (Xaa []) (Xaa ty) (.slice Ap ps.length cp) (.slice Ab bd.length cb) from by rw [hw1]; exact (HD.out.below hbl HD.out.lt).s3 _)
 clear hbl hw1
 have a2 := (HD1.out).c0
 go_wp2_with fail
 refine (Xaq (Went.refl (HW1.out).1) (Nat.le_trans hB (HW1.out).2.2.size) [[115, 105, 110, 107], nm, [59]] (by intro t ht; simp at ht; have := hnl; have := htl; first | (rcases ht with rfl | rfl | rfl | rfl <;> first | decide | assumption | simp) | (rcases ht with rfl | rfl | rfl <;> first | decide | assumption | simp) | (rcases ht with rfl | rfl <;> first | decide | assumption | simp) | (rw [ht]; first | decide | assumption) | (rw [ht]; simp)) (by simp)).mono ?_
 rintro e3 w3 hpost
 cases hR : adv T (some [[115, 105, 110, 107], nm, [59]]) with
 | none =>
   rw [hR] at hpost
   obtain ⟨rfl, hch⟩ := hpost
   have HNO := lh ((HEQ.out).trans (Xad hR _))
   have HCH := lh ((HW1.out).fell hch)
   clear hR hch
   unfold boom
   go_wp2
   refine ⟨rfl, ?_⟩
   rw [HNO.out]
   exact ⟨rfl, HCH.out⟩
 | some T3 =>
   rw [hR] at hpost
   obtain ⟨rfl, u3, hwent⟩ := hpost
   have HW3 := lh ((HW1.out).trans hwent)
   have HD3 := lh ((HD1.out).went (HW1.out).1 hg1 hg2 hwent)
   have HEQ3 := lh ((HEQ.out).trans (Xae hR _))
   clear hwent hR
   have c2 := (HD3.out).c2
   have c4 := (HD3.out).c4
   have c5 := (HD3.out).c5
   have c6 := (HD3.out).c6
   have hz0 : (Xaa []).toList = [] := Xaf []
   obtain ⟨nx, hnx⟩ : ∃ m, m = ps.length := ⟨_, rfl⟩
   rw [← hnx] at c5
   obtain ⟨nb, hnb⟩ : ∃ m, m = bd.length := ⟨_, rfl⟩
   rw [← hnb] at c6
   by_cases hn : n = 0
   case neg =>
    have HNO := lh ((HEQ3.out).trans (show adv T3 (need _ (some [])) = none from by rw [Xag (fun h => hn h.1)]; rfl))
    have hs1 : (n == 0) = false := by rw [beq_eq_false_iff_ne]; exact hn
    clear hnx hnb hn
    go_wp2_with fail
    refine (Xah _).mono ?_
    rintro e9 w9 ⟨rfl, rfl⟩
    unfold boom
    go_wp2
    refine ⟨rfl, ?_⟩
    rw [HNO.out]
    exact ⟨rfl, (HW3.out).2.2⟩
   by_cases ht : ty = []
   case neg =>
    have HNO := lh ((HEQ3.out).trans (show adv T3 (need _ (some [])) = none from by rw [Xag (fun h => ht h.2.1)]; rfl))
    subst hn
    have hs1 : ¬ (Xaa ty).toList = [] := by rw [Xaf]; exact ht
    clear hnx hnb ht
    go_wp2_with fail
    refine (Xah _).mono ?_
    rintro e9 w9 ⟨rfl, rfl⟩
    unfold boom
    go_wp2
    refine ⟨rfl, ?_⟩
    rw [HNO.out]
    exact ⟨rfl, (HW3.out).2.2⟩
   by_cases hx : ps.length = 0
   case neg =>
    have HNO := lh ((HEQ3.out).trans (show adv T3 (need _ (some [])) = none from by rw [Xag (fun h => hx h.2.2.1)]; rfl))
    subst hn
    subst ht
    have hl1 : (nx == 0) = false := by rw [beq_eq_false_iff_ne]; omega
    have hl2 : ((nx : Int) == 0) = false := by rw [beq_eq_false_iff_ne]; omega
    clear hnx hnb hx
    go_wp2_with fail
    refine (Xah _).mono ?_
    rintro e9 w9 ⟨rfl, rfl⟩
    unfold boom
    go_wp2
    refine ⟨rfl, ?_⟩
    rw [HNO.out]
    exact ⟨rfl, (HW3.out).2.2⟩
   by_cases hbl0 : bd.length = 0
   case neg =>
    have HNO := lh ((HEQ3.out).trans (show adv T3 (need _ (some [])) = none from by rw [Xag (fun h => hbl0 h.2.2.2)]; rfl))
    subst hn
    subst ht
    obtain rfl : nx = 0 := by omega
    have hl1 : (nb == 0) = false := by rw [beq_eq_false_iff_ne]; omega
    have hl2 : ((nb : Int) == 0) = false := by rw [beq_eq_false_iff_ne]; omega
    clear hnx hnb hx hbl0
    go_wp2_with fail
    refine (Xah _).mono ?_
    rintro e9 w9 ⟨rfl, rfl⟩
    unfold boom
    go_wp2
    refine ⟨rfl, ?_⟩
    rw [HNO.out]
    exact ⟨rfl, (HW3.out).2.2⟩
   have HFIN := lh ((HEQ3.out).trans (show adv T3 (need _ (some [])) = some T3 from by rw [Xai ⟨hn, ht, hx, hbl0⟩]; exact Xbe (HW3.out).1.fit))
   subst hn
   subst ht
   obtain rfl : nx = 0 := by omega
   obtain rfl : nb = 0 := by omega
   clear hnx hnb hx hbl0
   go_wp2_with fail
   refine (Xaj _).mono ?_
   rintro e9 w9 ⟨rfl, rfl⟩
   go_wp2
   go_end0
   rw [HFIN.out]
   exact ⟨rfl, _, HW3.out⟩
set_option maxRecDepth 100000 in
set_option maxHeartbeats 4000000 in
theorem decl_4 {w0 w : World} {Bc Ba B : Nat} {u : Value} {T : List (List UInt8)} {p n : Int} {nm ty : List UInt8} {ps : List Pr} {bd : List Sm} {vp vb : Value} (htab : Tab B w0) (hb : Below B w0 w) (hB : B ≤ w.heap.size) (hp : Xap w Bc Ba B u T) (hnl : nm.length ≤ 40000) (htl : ty.length ≤ 40000)
  (hps : Xcl w0 (· < B) ps vp) (hsm : ∀ p ∈ ps, p.name.length ≤ 40000 ∧ p.type.length ≤ 40000) (hbd : Xao w0 B bd vb) (hbs : ∃ A c, vb = .slice A bd.length c) (hq : Xam nm = true) :
  Calls Tryz.prog 29 #[penV Bc Ba, .agg #[.int .i64 4, .int .i64 p, .int .i64 n, .string (Xaa nm), .string (Xaa ty), vp, vb]] w (Xal w Bc Ba B u (adv T (penD ⟨4, p, n, nm, ty, ps, bd⟩))) := by
 obtain ⟨Ap, cp, hvp, _, _, _⟩ := id hps
 subst hvp
 obtain ⟨Ab, cb, hvb⟩ := hbs
 subst hvb
 obtain ⟨X, hX⟩ : ∃ X : World, X = w.alloc (.cells #[.int .i64 4, .int .i64 p, .int .i64 n, .string (Xaa nm), .string (Xaa ty), .slice Ap ps.length cp, .slice Ab bd.length cb] 41) := ⟨_, rfl⟩
 obtain ⟨g, hg⟩ : ∃ g, g = w.heap.size := ⟨_, rfl⟩
 have hd : Xar X g 4 p n (Xaa nm) (Xaa ty) (.slice Ap ps.length cp) (.slice Ab bd.length cb) := by rw [hX, hg]; exact Xar.new _ _ _ _ _ _ _ _
 have hw : Went w Bc Ba B u X u T := by rw [hX]; exact (Went.refl hp).alloc _
 have hg1 : Bc < g := by rw [hg]; exact Xab hp.cnt
 have hg2 : Ba < g := by rw [hg]; exact Xab hp.buf
 have hwg : w.heap.size ≤ g := by rw [hg]; exact Nat.le_refl _
 have hsz : (Xaa nm).size ≤ 40000 := by rw [Lib.size_eq, Xak]; exact hnl
 have HX := lh hX
 have HG := lh hg
 have HD := lh hd
 have HW := lh hw
 have HPS := lh hps
 have HSM := lh hsm
 clear hX hg hd hw hps hsm
 have HEQ := lh (congrArg (adv T) (penD_4 p n nm ty ps bd hq))
 have HTN := lh (Xba ⟨g, 3, none⟩ (Xaa nm) X HD.out.c3 (HD.out.frz 3) hsz hq)
 unfold penV
 go_enter Tryz.func29, Tryz.ntmps29
 go_wp2_with fail
 rw [← HX.out, ← HG.out]
 refine HTN.out.mono ?_
 rintro e1 w1 ⟨rfl, wm, hbl, hw1⟩
 have HW1 : Hid (Went w Bc Ba B u w1 u T) := lh (by rw [hw1]; exact (HW.out.below hbl).setCell _ _ hwg ((HD.out).apart (HW.out).1 hg1 hg2))
 have HD1 := lh (show Xar w1 g 4 p n (Xaa []) (Xaa ty) (.slice Ap ps.length cp) (.slice Ab bd.length cb) from by rw [hw1]; exact (HD.out.below hbl HD.out.lt).s3 _)
 clear hbl hw1
 have a2 := (HD1.out).c0
 go_wp2_with fail
 refine (Xaq (Went.refl (HW1.out).1) (Nat.le_trans hB (HW1.out).2.2.size) [Xbf 1, nm] (by intro t ht; simp at ht; have := hnl; have := htl; first | (rcases ht with rfl | rfl | rfl | rfl <;> first | decide | assumption | simp) | (rcases ht with rfl | rfl | rfl <;> first | decide | assumption | simp) | (rcases ht with rfl | rfl <;> first | decide | assumption | simp) | (rw [ht]; first | decide | assumption) | (rw [ht]; simp)) (by simp)).mono ?_
 rintro e3 w3 hpost
 cases hR : adv T (some [Xbf 1, nm]) with
 | none =>
   rw [hR] at hpost
   obtain ⟨rfl, hch⟩ := hpost
   have HNO := lh ((HEQ.out).trans (Xad hR _))
   have HCH := lh ((HW1.out).fell hch)
   clear hR hch
   unfold boom
   go_wp2
   refine ⟨rfl, ?_⟩
   rw [HNO.out]
   exact ⟨rfl, HCH.out⟩
 | some T3 =>
   rw [hR] at hpost
   obtain ⟨rfl, u3, hwent⟩ := hpost
   have HW3 := lh ((HW1.out).trans hwent)
   have HD3 := lh ((HD1.out).went (HW1.out).1 hg1 hg2 hwent)
   have HEQ3 := lh ((HEQ.out).trans (Xae hR _))
   clear hwent hR
   go_wp2_with fail
   refine (Xen ⟨g, 4, none⟩ (Xaa ty) _ (HD3.out).c4 ((HD3.out).frz 4)).mono ?_
   rintro e4 w4 ⟨rfl, hw4⟩
   have HW4 : Hid (Went w Bc Ba B u w4 _ T3) := lh (by rw [hw4]; exact (HW3.out).setCell _ _ hwg ((HD3.out).apart (HW3.out).1 hg1 hg2))
   have HD4 := lh (show Xar w4 g 4 p n (Xaa []) (Xaa []) (.slice Ap ps.length cp) (.slice Ab bd.length cb) from by rw [hw4]; exact (HD3.out).s4 _)
   clear hw4
   go_wp2_with fail
   refine (Xgj (HW4.out).1 (Nat.le_trans hB (HW4.out).2.2.size) ty htl).mono ?_
   rintro e5 w5 hpost
   cases hR : adv T3 (tyT ty) with
   | none =>
     rw [hR] at hpost
     obtain ⟨rfl, hch⟩ := hpost
     have HNO := lh ((HEQ3.out).trans (Xad hR _))
     have HCH := lh ((HW4.out).fell hch)
     clear hR hch
     unfold boom
     go_wp2
     refine ⟨rfl, ?_⟩
     rw [HNO.out]
     exact ⟨rfl, HCH.out⟩
   | some T5 =>
     rw [hR] at hpost
     obtain ⟨rfl, u5, hwent⟩ := hpost
     have HW5 := lh ((HW4.out).trans hwent)
     have HD5 := lh ((HD4.out).went (HW4.out).1 hg1 hg2 hwent)
     have HEQ5 := lh ((HEQ3.out).trans (Xae hR _))
     clear hwent hR
     go_wp2_with fail
     refine (Xaq (Went.refl (HW5.out).1) (Nat.le_trans hB (HW5.out).2.2.size) [[59]] (by intro t ht; simp at ht; have := hnl; have := htl; first | (rcases ht with rfl | rfl | rfl | rfl <;> first | decide | assumption | simp) | (rcases ht with rfl | rfl | rfl <;> first | decide | assumption | simp) | (rcases ht with rfl | rfl <;> first | decide | assumption | simp) | (rw [ht]; first | decide | assumption) | (rw [ht]; simp)) (by simp)).mono ?_
     rintro e6 w6 hpost
     cases hR : adv T5 (some [[59]]) with
     | none =>
       rw [hR] at hpost
       obtain ⟨rfl, hch⟩ := hpost
       have HNO := lh ((HEQ5.out).trans (Xad hR _))
       have HCH := lh ((HW5.out).fell hch)
       clear hR hch
       unfold boom
       go_wp2
       refine ⟨rfl, ?_⟩
       rw [HNO.out]
       exact ⟨rfl, HCH.out⟩
     | some T6 =>
       rw [hR] at hpost
       obtain ⟨rfl, u6, hwent⟩ := hpost
       have HW6 := lh ((HW5.out).trans hwent)
       have HD6 := lh ((HD5.out).went (HW5.out).1 hg1 hg2 hwent)
       have HEQ6 := lh ((HEQ5.out).trans (Xae hR _))
       clear hwent hR
       have c2 := (HD6.out).c2
       have c4 := (HD6.out).c4
       have c5 := (HD6.out).c5
       have c6 := (HD6.out).c6
       have hz0 : (Xaa []).toList = [] := Xaf []
       obtain ⟨nx, hnx⟩ : ∃ m, m = ps.length := ⟨_, rfl⟩
       rw [← hnx] at c5
       obtain ⟨nb, hnb⟩ : ∃ m, m = bd.length := ⟨_, rfl⟩
       rw [← hnb] at c6
       by_cases hn : n = 0
       case neg =>
        have HNO := lh ((HEQ6.out).trans (show adv T6 (need _ (some [])) = none from by rw [Xag (fun h => hn h.1)]; rfl))
        have hs1 : (n == 0) = false := by rw [beq_eq_false_iff_ne]; exact hn
        clear hnx hnb hn
        go_wp2_with fail
        refine (Xah _).mono ?_
        rintro e9 w9 ⟨rfl, rfl⟩
        unfold boom
        go_wp2
        refine ⟨rfl, ?_⟩
        rw [HNO.out]
        exact ⟨rfl, (HW6.out).2.2⟩
       by_cases hx : ps.length = 0
       case neg =>
        have HNO := lh ((HEQ6.out).trans (show adv T6 (need _ (some [])) = none from by rw [Xag (fun h => hx h.2.1)]; rfl))
        subst hn
        have hl1 : (nx == 0) = false := by rw [beq_eq_false_iff_ne]; omega
        have hl2 : ((nx : Int) == 0) = false := by rw [beq_eq_false_iff_ne]; omega
        clear hnx hnb hx
        go_wp2_with fail
        refine (Xah _).mono ?_
        rintro e9 w9 ⟨rfl, rfl⟩
        unfold boom
        go_wp2
        refine ⟨rfl, ?_⟩
        rw [HNO.out]
        exact ⟨rfl, (HW6.out).2.2⟩
       by_cases hbl0 : bd.length = 0
       case neg =>
        have HNO := lh ((HEQ6.out).trans (show adv T6 (need _ (some [])) = none from by rw [Xag (fun h => hbl0 h.2.2)]; rfl))
        subst hn
        obtain rfl : nx = 0 := by omega
        have hl1 : (nb == 0) = false := by rw [beq_eq_false_iff_ne]; omega
        have hl2 : ((nb : Int) == 0) = false := by rw [beq_eq_false_iff_ne]; omega
        clear hnx hnb hx hbl0
        go_wp2_with fail
        refine (Xah _).mono ?_
        rintro e9 w9 ⟨rfl, rfl⟩
        unfold boom
        go_wp2
        refine ⟨rfl, ?_⟩
        rw [HNO.out]
        exact ⟨rfl, (HW6.out).2.2⟩
       have HFIN := lh ((HEQ6.out).trans (show adv T6 (need _ (some [])) = some T6 from by rw [Xai ⟨hn, hx, hbl0⟩]; exact Xbe (HW6.out).1.fit))
       subst hn
       obtain rfl : nx = 0 := by omega
       obtain rfl : nb = 0 := by omega
       clear hnx hnb hx hbl0
       go_wp2_with fail
       refine (Xaj _).mono ?_
       rintro e9 w9 ⟨rfl, rfl⟩
       go_wp2
       go_end0
       rw [HFIN.out]
       exact ⟨rfl, _, HW6.out⟩
set_option maxRecDepth 100000 in
set_option maxHeartbeats 4000000 in
theorem decl_8 {w0 w : World} {Bc Ba B : Nat} {u : Value} {T : List (List UInt8)} {p n : Int} {nm ty : List UInt8} {ps : List Pr} {bd : List Sm} {vp vb : Value} (htab : Tab B w0) (hb : Below B w0 w) (hB : B ≤ w.heap.size) (hp : Xap w Bc Ba B u T) (hnl : nm.length ≤ 40000) (htl : ty.length ≤ 40000)
  (hps : Xcl w0 (· < B) ps vp) (hsm : ∀ p ∈ ps, p.name.length ≤ 40000 ∧ p.type.length ≤ 40000) (hbd : Xao w0 B bd vb) (hbs : ∃ A c, vb = .slice A bd.length c) (hq : Xam nm = true) :
  Calls Tryz.prog 29 #[penV Bc Ba, .agg #[.int .i64 8, .int .i64 p, .int .i64 n, .string (Xaa nm), .string (Xaa ty), vp, vb]] w (Xal w Bc Ba B u (adv T (penD ⟨8, p, n, nm, ty, ps, bd⟩))) := by
 obtain ⟨Ap, cp, hvp, _, _, _⟩ := id hps
 subst hvp
 obtain ⟨Ab, cb, hvb⟩ := hbs
 subst hvb
 obtain ⟨X, hX⟩ : ∃ X : World, X = w.alloc (.cells #[.int .i64 8, .int .i64 p, .int .i64 n, .string (Xaa nm), .string (Xaa ty), .slice Ap ps.length cp, .slice Ab bd.length cb] 41) := ⟨_, rfl⟩
 obtain ⟨g, hg⟩ : ∃ g, g = w.heap.size := ⟨_, rfl⟩
 have hd : Xar X g 8 p n (Xaa nm) (Xaa ty) (.slice Ap ps.length cp) (.slice Ab bd.length cb) := by rw [hX, hg]; exact Xar.new _ _ _ _ _ _ _ _
 have hw : Went w Bc Ba B u X u T := by rw [hX]; exact (Went.refl hp).alloc _
 have hg1 : Bc < g := by rw [hg]; exact Xab hp.cnt
 have hg2 : Ba < g := by rw [hg]; exact Xab hp.buf
 have hwg : w.heap.size ≤ g := by rw [hg]; exact Nat.le_refl _
 have hsz : (Xaa nm).size ≤ 40000 := by rw [Lib.size_eq, Xak]; exact hnl
 have HX := lh hX
 have HG := lh hg
 have HD := lh hd
 have HW := lh hw
 have HPS := lh hps
 have HSM := lh hsm
 clear hX hg hd hw hps hsm
 have HEQ := lh (congrArg (adv T) (penD_8 p n nm ty ps bd hq))
 have HTN := lh (Xba ⟨g, 3, none⟩ (Xaa nm) X HD.out.c3 (HD.out.frz 3) hsz hq)
 unfold penV
 go_enter Tryz.func29, Tryz.ntmps29
 go_wp2_with fail
 rw [← HX.out, ← HG.out]
 refine HTN.out.mono ?_
 rintro e1 w1 ⟨rfl, wm, hbl, hw1⟩
 have HW1 : Hid (Went w Bc Ba B u w1 u T) := lh (by rw [hw1]; exact (HW.out.below hbl).setCell _ _ hwg ((HD.out).apart (HW.out).1 hg1 hg2))
 have HD1 := lh (show Xar w1 g 8 p n (Xaa []) (Xaa ty) (.slice Ap ps.length cp) (.slice Ab bd.length cb) from by rw [hw1]; exact (HD.out.below hbl HD.out.lt).s3 _)
 clear hbl hw1
 have a2 := (HD1.out).c0
 go_wp2_with fail
 refine (Xaq (Went.refl (HW1.out).1) (Nat.le_trans hB (HW1.out).2.2.size) [[116, 104, 114, 101, 97, 100], nm] (by intro t ht; simp at ht; have := hnl; have := htl; first | (rcases ht with rfl | rfl | rfl | rfl <;> first | decide | assumption | simp) | (rcases ht with rfl | rfl | rfl <;> first | decide | assumption | simp) | (rcases ht with rfl | rfl <;> first | decide | assumption | simp) | (rw [ht]; first | decide | assumption) | (rw [ht]; simp)) (by simp)).mono ?_
 rintro e3 w3 hpost
 cases hR : adv T (some [[116, 104, 114, 101, 97, 100], nm]) with
 | none =>
   rw [hR] at hpost
   obtain ⟨rfl, hch⟩ := hpost
   have HNO := lh ((HEQ.out).trans (Xad hR _))
   have HCH := lh ((HW1.out).fell hch)
   clear hR hch
   unfold boom
   go_wp2
   refine ⟨rfl, ?_⟩
   rw [HNO.out]
   exact ⟨rfl, HCH.out⟩
 | some T3 =>
   rw [hR] at hpost
   obtain ⟨rfl, u3, hwent⟩ := hpost
   have HW3 := lh ((HW1.out).trans hwent)
   have HD3 := lh ((HD1.out).went (HW1.out).1 hg1 hg2 hwent)
   have HEQ3 := lh ((HEQ.out).trans (Xae hR _))
   clear hwent hR
   go_wp2_with fail
   refine (Xfi ⟨g, 6, none⟩ Ab bd.length cb _ (HD3.out).c6 ((HD3.out).frz 6)).mono ?_
   rintro e4 w4 ⟨rfl, hw4⟩
   have HW4 : Hid (Went w Bc Ba B u w4 _ T3) := lh (by rw [hw4]; exact (HW3.out).setCell _ _ hwg ((HD3.out).apart (HW3.out).1 hg1 hg2))
   have HD4 := lh (show Xar w4 g 8 p n (Xaa []) (Xaa ty) (.slice Ap ps.length cp) (.slice none 0 0) from by rw [hw4]; exact (HD3.out).s6 _)
   clear hw4
   go_wp2_with fail
   have HCB := lh (hbd w4 Bc Ba _ _ 1 (hb.trans ((HW4.out).2.2.below hB (fun x hx => (hp.mine hx).1))) (Nat.le_trans hB (HW4.out).2.2.size) (HW4.out).1 (by omega) (by omega))
   unfold penV at HCB
   refine (HCB.out).mono ?_
   rintro e5 w5 hpost
   cases hR : adv T3 (penB bd 1) with
   | none =>
     rw [hR] at hpost
     obtain ⟨rfl, hch⟩ := hpost
     have HNO := lh ((HEQ3.out).trans (Xad hR _))
     have HCH := lh ((HW4.out).fell hch)
     clear hR hch
     unfold boom
     go_wp2
     refine ⟨rfl, ?_⟩
     rw [HNO.out]
     exact ⟨rfl, HCH.out⟩
   | some T5 =>
     rw [hR] at hpost
     obtain ⟨rfl, u5, hwent⟩ := hpost
     have HW5 := lh ((HW4.out).trans hwent)
     have HD5 := lh ((HD4.out).went (HW4.out).1 hg1 hg2 hwent)
     have HEQ5 := lh ((HEQ3.out).trans (Xae hR _))
     clear hwent hR
     have c2 := (HD5.out).c2
     have c4 := (HD5.out).c4
     have c5 := (HD5.out).c5
     have c6 := (HD5.out).c6
     have hz0 : (Xaa []).toList = [] := Xaf []
     obtain ⟨nx, hnx⟩ : ∃ m, m = ps.length := ⟨_, rfl⟩
     rw [← hnx] at c5
     by_cases hn : n = 0
     case neg =>
      have HNO := lh ((HEQ5.out).trans (show adv T5 (need _ (some [])) = none from by rw [Xag (fun h => hn h.1)]; rfl))
      have hs1 : (n == 0) = false := by rw [beq_eq_false_iff_ne]; exact hn
      clear hnx hn
      go_wp2_with fail
      refine (Xah _).mono ?_
      rintro e9 w9 ⟨rfl, rfl⟩
      unfold boom
      go_wp2
      refine ⟨rfl, ?_⟩
      rw [HNO.out]
      exact ⟨rfl, (HW5.out).2.2⟩
     by_cases ht : ty = []
     case neg =>
      have HNO := lh ((HEQ5.out).trans (show adv T5 (need _ (some [])) = none from by rw [Xag (fun h => ht h.2.1)]; rfl))
      subst hn
      have hs1 : ¬ (Xaa ty).toList = [] := by rw [Xaf]; exact ht
      clear hnx ht
      go_wp2_with fail
      refine (Xah _).mono ?_
      rintro e9 w9 ⟨rfl, rfl⟩
      unfold boom
      go_wp2
      refine ⟨rfl, ?_⟩
      rw [HNO.out]
      exact ⟨rfl, (HW5.out).2.2⟩
     by_cases hx : ps.length = 0
     case neg =>
      have HNO := lh ((HEQ5.out).trans (show adv T5 (need _ (some [])) = none from by rw [Xag (fun h => hx h.2.2)]; rfl))
      subst hn
      subst ht
      have hl1 : (nx == 0) = false := by rw [beq_eq_false_iff_ne]; omega
      have hl2 : ((nx : Int) == 0) = false := by rw [beq_eq_false_iff_ne]; omega
      clear hnx hx
      go_wp2_with fail
      refine (Xah _).mono ?_
      rintro e9 w9 ⟨rfl, rfl⟩
      unfold boom
      go_wp2
      refine ⟨rfl, ?_⟩
      rw [HNO.out]
      exact ⟨rfl, (HW5.out).2.2⟩
     have HFIN := lh ((HEQ5.out).trans (show adv T5 (need _ (some [])) = some T5 from by rw [Xai ⟨hn, ht, hx⟩]; exact Xbe (HW5.out).1.fit))
     subst hn
     subst ht
     obtain rfl : nx = 0 := by omega
     clear hnx hx
     go_wp2_with fail
     refine (Xaj _).mono ?_
     rintro e9 w9 ⟨rfl, rfl⟩
     go_wp2
     go_end0
     rw [HFIN.out]
     exact ⟨rfl, _, HW5.out⟩
set_option maxRecDepth 100000 in
set_option maxHeartbeats 4000000 in
theorem Xrq {w0 w : World} {Bc Ba B : Nat} {u : Value} {T : List (List UInt8)} {p n : Int} {nm ty : List UInt8} {ps : List Pr} {bd : List Sm} {vp vb : Value} (htab : Tab B w0) (hb : Below B w0 w) (hB : B ≤ w.heap.size) (hp : Xap w Bc Ba B u T) (hnl : nm.length ≤ 40000) (htl : ty.length ≤ 40000)
  (hps : Xcl w0 (· < B) ps vp) (hsm : ∀ p ∈ ps, p.name.length ≤ 40000 ∧ p.type.length ≤ 40000) (hbd : Xao w0 B bd vb) (hbs : ∃ A c, vb = .slice A bd.length c) (hq : Xam nm = true) (hn4 : 1 ≤ n ∧ n ≤ 4) :
  Calls Tryz.prog 29 #[penV Bc Ba, .agg #[.int .i64 2, .int .i64 p, .int .i64 n, .string (Xaa nm), .string (Xaa ty), vp, vb]] w (Xal w Bc Ba B u (adv T (penD ⟨2, p, n, nm, ty, ps, bd⟩))) := by
 obtain ⟨Ap, cp, hvp, _, _, _⟩ := id hps
 subst hvp
 obtain ⟨Ab, cb, hvb⟩ := hbs
 subst hvb
 obtain ⟨X, hX⟩ : ∃ X : World, X = w.alloc (.cells #[.int .i64 2, .int .i64 p, .int .i64 n, .string (Xaa nm), .string (Xaa ty), .slice Ap ps.length cp, .slice Ab bd.length cb] 41) := ⟨_, rfl⟩
 obtain ⟨g, hg⟩ : ∃ g, g = w.heap.size := ⟨_, rfl⟩
 have hd : Xar X g 2 p n (Xaa nm) (Xaa ty) (.slice Ap ps.length cp) (.slice Ab bd.length cb) := by rw [hX, hg]; exact Xar.new _ _ _ _ _ _ _ _
 have hw : Went w Bc Ba B u X u T := by rw [hX]; exact (Went.refl hp).alloc _
 have hg1 : Bc < g := by rw [hg]; exact Xab hp.cnt
 have hg2 : Ba < g := by rw [hg]; exact Xab hp.buf
 have hwg : w.heap.size ≤ g := by rw [hg]; exact Nat.le_refl _
 have hsz : (Xaa nm).size ≤ 40000 := by rw [Lib.size_eq, Xak]; exact hnl
 have HX := lh hX
 have HG := lh hg
 have HD := lh hd
 have HW := lh hw
 have HPS := lh hps
 have HSM := lh hsm
 clear hX hg hd hw hps hsm
 have HEQ := lh (congrArg (adv T) ((penD_2 p n nm ty ps bd hq).trans (by rw [Xaw hn4])))
 have HTN := lh (Xba ⟨g, 3, none⟩ (Xaa nm) X HD.out.c3 (HD.out.frz 3) hsz hq)
 unfold penV
 go_enter Tryz.func29, Tryz.ntmps29
 go_wp2_with fail
 rw [← HX.out, ← HG.out]
 refine HTN.out.mono ?_
 rintro e1 w1 ⟨rfl, wm, hbl, hw1⟩
 have HW1 : Hid (Went w Bc Ba B u w1 u T) := lh (by rw [hw1]; exact (HW.out.below hbl).setCell _ _ hwg ((HD.out).apart (HW.out).1 hg1 hg2))
 have HD1 := lh (show Xar w1 g 2 p n (Xaa []) (Xaa ty) (.slice Ap ps.length cp) (.slice Ab bd.length cb) from by rw [hw1]; exact (HD.out.below hbl HD.out.lt).s3 _)
 clear hbl hw1
 have a2 := (HD1.out).c0
 go_wp2_with fail
 have hbt := (hb.trans ((HW1.out).2.2.below hB (fun x hx => (hp.mine hx).1)))
 refine (Xkk ⟨g, 2, none⟩ n 1 4 _ (HD1.out).c2 ((HD1.out).frz 2) hn4.1 hn4.2 (by omega) (by omega) (fun x => htab _ (hbt.setCell (by show B ≤ g; omega) _))).mono ?_
 rintro e3 w3 ⟨rfl, hbl⟩
 have HW3 : Hid (Went w Bc Ba B u w3 u T) := lh (((HW1.out).setCell ⟨g, 2, none⟩ (.int .i64 0) hwg ((HD1.out).apart (HW1.out).1 hg1 hg2)).below (by have := hbl; simpa [World.setCell] using this))
 have HD3 := lh (show Xar w3 g 2 p 0 (Xaa []) (Xaa ty) (.slice Ap ps.length cp) (.slice Ab bd.length cb) from ((HD1.out).s2 0).below hbl (by have := (HD1.out).lt; simpa [World.setCell] using this))
 clear hbl hbt
 go_wp2_with fail
 refine (Xaq (Went.refl (HW3.out).1) (Nat.le_trans hB (HW3.out).2.2.size) [[99, 104, 97, 110], nm, Lib.itoa n, [59]] (by intro t ht; simp at ht; have := hnl; have := Lib.itoa_length_le n (by omega) (by omega); rcases ht with rfl | rfl | rfl | rfl <;> first | decide | assumption | omega | simp) (by simp)).mono ?_
 rintro e4 w4 hpost
 cases hR : adv T (some [[99, 104, 97, 110], nm, Lib.itoa n, [59]]) with
 | none =>
   rw [hR] at hpost
   obtain ⟨rfl, hch⟩ := hpost
   have HNO := lh ((HEQ.out).trans (Xad hR _))
   have HCH := lh ((HW3.out).fell hch)
   clear hR hch
   unfold boom
   go_wp2
   refine ⟨rfl, ?_⟩
   rw [HNO.out]
   exact ⟨rfl, HCH.out⟩
 | some T4 =>
   rw [hR] at hpost
   obtain ⟨rfl, u4, hwent⟩ := hpost
   have HW4 := lh ((HW3.out).trans hwent)
   have HD4 := lh ((HD3.out).went (HW3.out).1 hg1 hg2 hwent)
   have HEQ4 := lh ((HEQ.out).trans (Xae hR _))
   clear hwent hR
   have c2 := (HD4.out).c2
   have c4 := (HD4.out).c4
   have c5 := (HD4.out).c5
   have c6 := (HD4.out).c6
   have hz0 : (Xaa []).toList = [] := Xaf []
   obtain ⟨nx, hnx⟩ : ∃ m, m = ps.length := ⟨_, rfl⟩
   rw [← hnx] at c5
   obtain ⟨nb, hnb⟩ : ∃ m, m = bd.length := ⟨_, rfl⟩
   rw [← hnb] at c6
   by_cases ht : ty = []
   case neg =>
    have HNO := lh ((HEQ4.out).trans (show adv T4 (need _ (some [])) = none from by rw [Xag (fun h => ht h.1)]; rfl))
    have hs1 : ¬ (Xaa ty).toList = [] := by rw [Xaf]; exact ht
    clear hnx hnb ht
    go_wp2_with fail
    refine (Xah _).mono ?_
    rintro e9 w9 ⟨rfl, rfl⟩
    unfold boom
    go_wp2
    refine ⟨rfl, ?_⟩
    rw [HNO.out]
    exact ⟨rfl, (HW4.out).2.2⟩
   by_cases hx : ps.length = 0
   case neg =>
    have HNO := lh ((HEQ4.out).trans (show adv T4 (need _ (some [])) = none from by rw [Xag (fun h => hx h.2.1)]; rfl))
    subst ht
    have hl1 : (nx == 0) = false := by rw [beq_eq_false_iff_ne]; omega
    have hl2 : ((nx : Int) == 0) = false := by rw [beq_eq_false_iff_ne]; omega
    clear hnx hnb hx
    go_wp2_with fail
    refine (Xah _).mono ?_
    rintro e9 w9 ⟨rfl, rfl⟩
    unfold boom
    go_wp2
    refine ⟨rfl, ?_⟩
    rw [HNO.out]
    exact ⟨rfl, (HW4.out).2.2⟩
   by_cases hbl0 : bd.length = 0
   case neg =>
    have HNO := lh ((HEQ4.out).trans (show adv T4 (need _ (some [])) = none from by rw [Xag (fun h => hbl0 h.2.2)]; rfl))
    subst ht
    obtain rfl : nx = 0 := by omega
    have hl1 : (nb == 0) = false := by rw [beq_eq_false_iff_ne]; omega
    have hl2 : ((nb : Int) == 0) = false := by rw [beq_eq_false_iff_ne]; omega
    clear hnx hnb hx hbl0
    go_wp2_with fail
    refine (Xah _).mono ?_
    rintro e9 w9 ⟨rfl, rfl⟩
    unfold boom
    go_wp2
    refine ⟨rfl, ?_⟩
    rw [HNO.out]
    exact ⟨rfl, (HW4.out).2.2⟩
   have HFIN := lh ((HEQ4.out).trans (show adv T4 (need _ (some [])) = some T4 from by rw [Xai ⟨ht, hx, hbl0⟩]; exact Xbe (HW4.out).1.fit))
   subst ht
   obtain rfl : nx = 0 := by omega
   obtain rfl : nb = 0 := by omega
   clear hnx hnb hx hbl0
   go_wp2_with fail
   refine (Xaj _).mono ?_
   rintro e9 w9 ⟨rfl, rfl⟩
   go_wp2
   go_end0
   rw [HFIN.out]
   exact ⟨rfl, _, HW4.out⟩
set_option maxRecDepth 100000 in
set_option maxHeartbeats 4000000 in
theorem Xug {w0 w : World} {Bc Ba B : Nat} {u : Value} {T : List (List UInt8)} {p n : Int} {nm ty : List UInt8} {ps : List Pr} {bd : List Sm} {vp vb : Value} (htab : Tab B w0) (hb : Below B w0 w) (hB : B ≤ w.heap.size) (hp : Xap w Bc Ba B u T) (hnl : nm.length ≤ 40000) (htl : ty.length ≤ 40000)
  (hps : Xcl w0 (· < B) ps vp) (hsm : ∀ p ∈ ps, p.name.length ≤ 40000 ∧ p.type.length ≤ 40000) (hbd : Xao w0 B bd vb) (hbs : ∃ A c, vb = .slice A bd.length c) (hq : Xam nm = true) (hn4 : ¬ (1 ≤ n ∧ n ≤ 4)) :
  Calls Tryz.prog 29 #[penV Bc Ba, .agg #[.int .i64 2, .int .i64 p, .int .i64 n, .string (Xaa nm), .string (Xaa ty), vp, vb]] w (Xal w Bc Ba B u (adv T (penD ⟨2, p, n, nm, ty, ps, bd⟩))) := by
 obtain ⟨Ap, cp, hvp, _, _, _⟩ := id hps
 subst hvp
 obtain ⟨Ab, cb, hvb⟩ := hbs
 subst hvb
 obtain ⟨X, hX⟩ : ∃ X : World, X = w.alloc (.cells #[.int .i64 2, .int .i64 p, .int .i64 n, .string (Xaa nm), .string (Xaa ty), .slice Ap ps.length cp, .slice Ab bd.length cb] 41) := ⟨_, rfl⟩
 obtain ⟨g, hg⟩ : ∃ g, g = w.heap.size := ⟨_, rfl⟩
 have hd : Xar X g 2 p n (Xaa nm) (Xaa ty) (.slice Ap ps.length cp) (.slice Ab bd.length cb) := by rw [hX, hg]; exact Xar.new _ _ _ _ _ _ _ _
 have hw : Went w Bc Ba B u X u T := by rw [hX]; exact (Went.refl hp).alloc _
 have hg1 : Bc < g := by rw [hg]; exact Xab hp.cnt
 have hg2 : Ba < g := by rw [hg]; exact Xab hp.buf
 have hwg : w.heap.size ≤ g := by rw [hg]; exact Nat.le_refl _
 have hsz : (Xaa nm).size ≤ 40000 := by rw [Lib.size_eq, Xak]; exact hnl
 have HX := lh hX
 have HG := lh hg
 have HD := lh hd
 have HW := lh hw
 have HPS := lh hps
 have HSM := lh hsm
 clear hX hg hd hw hps hsm
 have HEQ := lh (congrArg (adv T) ((penD_2 p n nm ty ps bd hq).trans (by rw [Xaz hn4])))
 have HTN := lh (Xba ⟨g, 3, none⟩ (Xaa nm) X HD.out.c3 (HD.out.frz 3) hsz hq)
 unfold penV
 go_enter Tryz.func29, Tryz.ntmps29
 go_wp2_with fail
 rw [← HX.out, ← HG.out]
 refine HTN.out.mono ?_
 rintro e1 w1 ⟨rfl, wm, hbl, hw1⟩
 have HW1 : Hid (Went w Bc Ba B u w1 u T) := lh (by rw [hw1]; exact (HW.out.below hbl).setCell _ _ hwg ((HD.out).apart (HW.out).1 hg1 hg2))
 have HD1 := lh (show Xar w1 g 2 p n (Xaa []) (Xaa ty) (.slice Ap ps.length cp) (.slice Ab bd.length cb) from by rw [hw1]; exact (HD.out.below hbl HD.out.lt).s3 _)
 clear hbl hw1
 have a2 := (HD1.out).c0
 go_wp2_with fail
 have HNO := HEQ
 refine (Xli ⟨g, 2, none⟩ n 1 4 _ (HD1.out).c2 hn4).mono ?_
 rintro e8 w8 ⟨rfl, rfl⟩
 have HCH := lh ((HW1.out).2.2)
 unfold boom
 go_wp2
 refine ⟨rfl, ?_⟩
 rw [HNO.out]
 exact ⟨rfl, HCH.out⟩
end Go.Proofs.YtodociiaobjfgaaGreatDoor
