/- Xi Xj Ya -/
import Derived.Test.YtodociiaobjfgaaGreatDoorVc1
import Derived.Test.YtodociiaobjfgaaGreatDoorTie
import Derived.Test.YtodociiaobjfgaaGreatDoorCards
import Derived.LaidMore
import Derived.LaidOnce
import Derived.Handed
import Derived.Stop.LaidErr
import Derived.Lib.LaidTab
import Derived.SevenTiedAt
import Derived.JoinedOf
set_option linter.unusedVariables false
set_option linter.unusedSimpArgs false
namespace Go.Proofs.YtodociiaobjfgaaGreatDoor
open Go.RowKit
def Xts (w0 : World) (B : Nat) (s : Dc) (a b : Value) : Prop :=
 ∀ (w : World) (Bc Ba : Nat) (u : Value) (T : List (List UInt8)), Below B w0 w → B ≤ w.heap.size → Xap w Bc Ba B u T →
  Calls Tryz.prog 29 #[penV Bc Ba, .agg #[.int .i64 s.kind, .int .i64 s.pl, .int .i64 s.num, .string (Xaa s.name), .string (Xaa s.type), a, b]] w (Xal w Bc Ba B u (adv T (penD s)))
theorem Xui {w0 : World} {B : Nat} (htab : Tab B w0) (s : Dc) {a b : Value} (hn : s.name.length ≤ 40000) (ht : s.type.length ≤ 40000) (hps : Xcl w0 (· < B) s.pairs a) (hsm : ∀ p ∈ s.pairs, p.name.length ≤ 40000 ∧ p.type.length ≤ 40000)
  (hbd : Xao w0 B s.body b) (hbs : ∃ A c, b = .slice A s.body.length c) : Xts w0 B s a b := by
 obtain ⟨k, p, n, nm, ty, ps, bd⟩ := s
 intro w Bc Ba u T hb hB hp
 have hps : Xcl w0 (· < B) ps a := hps
 have hsm : ∀ p ∈ ps, p.name.length ≤ 40000 ∧ p.type.length ≤ 40000 := hsm
 have hn : nm.length ≤ 40000 := hn
 have ht : ty.length ≤ 40000 := ht
 have hbd : Xao w0 B bd b := hbd
 have hbs : ∃ A c, b = .slice A bd.length c := hbs
 show Calls Tryz.prog 29 #[penV Bc Ba, .agg #[.int .i64 k, .int .i64 p, .int .i64 n, .string (Xaa nm), .string (Xaa ty), a, b]] w (Xal w Bc Ba B u (adv T (penD ⟨k, p, n, nm, ty, ps, bd⟩)))
 by_cases hq : Xam nm = true
 case neg => exact Xop htab hb hB hp hn ht hps hsm hbd hbs hq
 by_cases k1 : k = 1
 · subst k1
   exact decl_1 htab hb hB hp hn ht hps hsm hbd hbs hq
 by_cases k3 : k = 3
 · subst k3
   exact decl_3 htab hb hB hp hn ht hps hsm hbd hbs hq
 by_cases k4 : k = 4
 · subst k4
   exact decl_4 htab hb hB hp hn ht hps hsm hbd hbs hq
 by_cases k5 : k = 5
 · subst k5
   exact decl_5 htab hb hB hp hn ht hps hsm hbd hbs hq
 by_cases k6 : k = 6
 · subst k6
   exact decl_6 htab hb hB hp hn ht hps hsm hbd hbs hq
 by_cases k8 : k = 8
 · subst k8
   exact decl_8 htab hb hB hp hn ht hps hsm hbd hbs hq
 by_cases k2 : k = 2
 · subst k2
   by_cases h4 : 1 ≤ n ∧ n ≤ 4
   · exact Xrq htab hb hB hp hn ht hps hsm hbd hbs hq h4
   · exact Xug htab hb hB hp hn ht hps hsm hbd hbs hq h4
 by_cases k7 : k = 7
 · subst k7
   by_cases h4 : ty = []
   · exact decl_7_b htab hb hB hp hn ht hps hsm hbd hbs hq h4
   · exact decl_7_a htab hb hB hp hn ht hps hsm hbd hbs hq h4
 exact Xuh htab hb hB hp hn ht hps hsm hbd hbs hq (by omega)
def ReadsD (w0 : World) (B : Nat) (ss : List Dc) (V : Value) : Prop :=
 ∃ A c, V = .slice A ss.length c ∧ ss.length ≤ c ∧ c ≤ 9223372036854775807 ∧ ∀ (j : Nat) (hj : j < ss.length), ∃ b off A1 n1 c1 A2 n2 c2, A = some ⟨b, off, none⟩ ∧ b < B ∧
  w0.cell? ⟨b, off + j * 7, none⟩ = some (.int .i64 ss[j].kind) ∧ w0.cell? ⟨b, off + j * 7 + 1, none⟩ = some (.int .i64 ss[j].pl) ∧ w0.cell? ⟨b, off + j * 7 + 2, none⟩ = some (.int .i64 ss[j].num) ∧
  w0.cell? ⟨b, off + j * 7 + 3, none⟩ = some (.string (Xaa ss[j].name)) ∧ w0.cell? ⟨b, off + j * 7 + 4, none⟩ = some (.string (Xaa ss[j].type)) ∧ w0.cell? ⟨b, off + j * 7 + 5, none⟩ = some (.slice A1 n1 c1) ∧
  w0.cell? ⟨b, off + j * 7 + 6, none⟩ = some (.slice A2 n2 c2) ∧ Xts w0 B ss[j] (.slice A1 n1 c1) (.slice A2 n2 c2)
theorem Xsn {ss : List Dc} {j : Nat} (h : j < ss.length) : Xei (ss.drop j) = cat (penD ss[j]) (Xei (ss.drop (j + 1))) := by
 rw [List.drop_eq_getElem_cons h, Xei]
set_option maxRecDepth 100000 in
set_option maxHeartbeats 2000000 in
theorem Xnu {w0 w : World} {Bc Ba B : Nat} {u : Value} {T : List (List UInt8)} {ss : List Dc} {V : Value} (hrs : ReadsD w0 B ss V) (hb : Below B w0 w) (hB : B ≤ w.heap.size) (hp : Xap w Bc Ba B u T) :
  Calls Tryz.prog 16 #[penV Bc Ba, .agg #[V]] w (Xal w Bc Ba B u (adv T (penP ss))) := by
 obtain ⟨A, c, rfl, hc, hM, hA⟩ := hrs
 obtain ⟨n, hn⟩ : ∃ n, n = ss.length := ⟨_, rfl⟩
 obtain ⟨Q, hQ⟩ : ∃ Q : Ts, Q = penP ss := ⟨_, rfl⟩
 rw [← hn] at hc ⊢
 rw [← hQ]
 by_cases h4 : n ≤ 64
 · have h4' : decide ((n : Int) ≤ 64) = true := by rw [decide_eq_true_eq]; omega
   have HEQ : Hid (adv T Q = adv T (Xei ss)) := lh (by rw [hQ]; unfold penP; rw [Xai (by omega)])
   have HN := lh hn
   have HA := lh hA
   have HP := lh hp
   have HBB := lh hb
   have hfit := hp.fit
   have HFIT := lh hfit
   unfold penV
   clear hn hA h4 hp hb hQ hfit
   go_enter Tryz.func16, Tryz.ntmps16
   go_wp2_with fail
   refine (Xaj _).mono ?_
   rintro e w1 ⟨rfl, rfl⟩
   go_wp2_with fail
   go_loopw [14] (fun i wr => ∃ (j : Nat) (u' : Value) (T' : List (List UInt8)), j ≤ n ∧ i = .int .i64 j ∧ Hid (Went w Bc Ba B u wr u' T') ∧ Hid (adv T Q = adv T' (Xei (ss.drop j)))) (fun i _ => n - (intOf i).toNat)
   case atStart => exact ⟨0, u, T, Nat.zero_le _, rfl, lh ((Went.refl HP.out).alloc _), HEQ⟩
   case round =>
    obtain ⟨wo, rfl⟩ : ∃ wo : World, wo = wr := ⟨_, rfl⟩
    obtain ⟨j, u2, T2, hj, rfl, HW2, HEQ2⟩ := hrel
    by_cases hlt : j < n
    · have hjt : j < ss.length := by rw [← HN.out]; exact hlt
      obtain ⟨b, off, A1, n1, c1, A2, n2, c2, rfl, hbB, r0, r1, r2, r3, r4, r5, r6, hWr⟩ := HA.out j hjt
      have hbw : Below B w0 wo := HBB.out.trans (HW2.out.2.2.below hB (fun x hx => (HP.out.mine hx).1))
      have up : ∀ {i : Nat} {v : Value}, w0.cell? ⟨b, i, none⟩ = some v → wo.cell? ⟨b, i, none⟩ = some v := fun h => (hbw.cell hbB).trans h
      have r0 := up r0
      have r1 := up r1
      have r2 := up r2
      have r3 := up r3
      have r4 := up r4
      have r5 := up r5
      have r6 := up r6
      have hdr := Xsn hjt
      obtain ⟨E, hE⟩ : ∃ E, E = ss[j] := ⟨_, rfl⟩
      rw [← hE] at r0 r1 r2 r3 r4 hWr hdr
      clear up hE
      obtain ⟨Y, hY⟩ : ∃ Y : World, Y = wo.alloc (.cells #[.int .i64 E.kind, .int .i64 E.pl, .int .i64 E.num, .string (Xaa E.name), .string (Xaa E.type), .slice A1 n1 c1, .slice A2 n2 c2] 41) := ⟨_, rfl⟩
      have hwy : Went w Bc Ba B u Y u2 T2 := by rw [hY]; exact HW2.out.alloc _
      have hby : Below B w0 Y := by rw [hY]; exact hbw.alloc (Nat.le_trans hB HW2.out.2.2.size) _
      have hcall := hWr Y Bc Ba u2 T2 hby (Nat.le_trans hB hwy.2.2.size) hwy.1
      have HEQ3 : Hid (adv T Q = adv T2 (cat (penD E) (Xei (ss.drop (j + 1))))) := lh (by rw [HEQ2.out, hdr])
      have HWY := lh hwy
      have HY := lh hY
      have HCALL := lh hcall
      clear hwy hY hcall hdr hWr hbw hby
      unfold penV at HCALL
      go_wp2_with fail
      rw [← HY.out]
      refine HCALL.out.mono ?_
      rintro e4 w4 hpost
      cases hR : adv T2 (penD E) with
      | none =>
        rw [hR] at hpost
        obtain ⟨rfl, hch⟩ := hpost
        have HNO := lh (HEQ3.out.trans (Xad hR _))
        have HCH := lh (HWY.out.fell hch)
        clear hR hch
        unfold boom
        go_wp2
        refine ⟨rfl, ?_⟩
        rw [HNO.out]
        exact ⟨rfl, HCH.out⟩
      | some T4 =>
        rw [hR] at hpost
        obtain ⟨rfl, u4, hwent⟩ := hpost
        have HW4 := lh (HWY.out.trans hwent)
        have HEQ5 := lh (HEQ3.out.trans (Xae hR _))
        clear hwent hR
        go_wp2_with fail
        go_roundw
        case rel => exact ⟨j + 1, u4, T4, by omega, by go_num, HW4, HEQ5⟩
        case measure => simp [intOf]; omega
    · have hjn : j = n := by omega
      subst hjn
      have hdn : ss.drop j = [] := List.drop_of_length_le (by rw [HN.out]; exact Nat.le_refl _)
      have HFIN : Hid (adv T Q = some T2) := lh (by rw [HEQ2.out, hdn, Xei]; exact Xbe HW2.out.1.fit)
      clear hdn
      go_wp2
      go_end0
      rw [HFIN.out]
      exact ⟨rfl, u2, HW2.out⟩
 · have h4' : decide ((n : Int) ≤ 64) = false := by rw [decide_eq_false_iff_not]; omega
   have HNO : Hid (adv T Q = none) := lh (by rw [hQ]; unfold penP; rw [Xag (by omega)]; rfl)
   clear hn hA hp hb hQ h4
   unfold penV
   go_enter Tryz.func16, Tryz.ntmps16
   go_wp2_with fail
   refine (Xah _).mono ?_
   rintro e w1 ⟨rfl, rfl⟩
   unfold boom
   go_wp2
   refine ⟨rfl, ?_⟩
   rw [HNO.out]
   exact ⟨rfl, (Chg.refl _ _).alloc _⟩
def Xcy (d : Dc) : Prop := d.name.length ≤ 40000 ∧ d.type.length ≤ 40000 ∧ (∀ p ∈ d.pairs, p.name.length ≤ 40000 ∧ p.type.length ≤ 40000) ∧ Xbz 40000 d.body
theorem Xpn {w0 w : World} {Bc Ba B : Nat} {u : Value} {T : List (List UInt8)} (htab : Tab B w0) {ss : List Dc} {V : Value} (h : Xdl w0 (· < B) ss V) (hsm : ∀ (k : Nat) (hk : k < ss.length), Xcy ss[k]) (hb : Below B w0 w) (hB : B ≤ w.heap.size) (hp : Xap w Bc Ba B u T) :
  Calls Tryz.prog 16 #[penV Bc Ba, .agg #[V]] w (Xal w Bc Ba B u (adv T (penP ss))) := by
 refine Xnu ?_ hb hB hp
 obtain ⟨A, c, fp, fb, rfl, hc, hM, hA, hpr, hbd⟩ := h
 refine ⟨A, c, rfl, hc, hM, fun j hj => ?_⟩
 obtain ⟨b, off, h1, h2, h3, h4, c0, c1, c2, c3, c4, c5, c6⟩ := hA j hj
 obtain ⟨s1, s2, s3, s4⟩ := hsm j hj
 obtain ⟨A1, k1, e1, _, _⟩ := id (hpr j hj)
 obtain ⟨A2, k2, e2, _, _⟩ := (hbd j hj).slice
 have hw := Xui htab ss[j] s1 s2 (hpr j hj) s3 (Xtx htab (hbd j hj) s4) ⟨A2, k2, e2⟩
 rw [e1, e2] at hw
 rw [e1] at c5
 rw [e2] at c6
 exact ⟨b, off, A1, _, k1, A2, _, k2, h1, h2, c0, c1, c2, c3, c4, c5, c6, hw⟩
def TabW (w : World) : Prop := Lib.TabIs Tryz.prog w "internal/strconv.uint64pow10" .u64 Lib.pow10Tab
theorem TabW.below {w w1 : World} (h : TabW w) (hb : Below w.heap.size w w1) : TabW w1 := Lib.tabBelow_of_tabIs h w1 hb
theorem TabW.tab {w : World} (h : TabW w) : Tab w.heap.size w := Lib.tabBelow_of_tabIs h
set_option maxRecDepth 100000 in
theorem Xoh {w : World} {g : Nat} (t : List UInt8) (ht : t.length ≤ 40000) (hg : w.heap[g]? = some (.cells #[.string (Xaa t)] 9 (0, 0))) : Xqc 22 #[.pointer (some ⟨g, 0, none⟩)] w (tyT t) := by
 intro wx Bc Ba hb hB hp
 have hc : wx.cell? ⟨g, 0, none⟩ = some (.string (Xaa t)) := by
  rw [cell_of_row wx g 0 _ _ (0, 0) ((hb.block g (Xab hg)).trans hg)]; rfl
 have HT := lh (Xgj hp hB t ht)
 unfold penV at HT
 unfold penV
 clear hb hg hp
 go_enter Tryz.func22, Tryz.ntmps22
 go_wp2_with fail
 refine HT.out.mono ?_
 rintro e1 w1 hpost
 cases hR : adv [] (tyT t) with
 | none =>
   rw [hR] at hpost
   obtain ⟨rfl, hch⟩ := hpost
   have HCH := lh hch
   clear hR hch
   unfold boom
   go_wp2
   exact ⟨rfl, rfl, HCH.out⟩
 | some T1 =>
   rw [hR] at hpost
   obtain ⟨rfl, u1, hwent⟩ := hpost
   have HWE := lh hwent
   have HR := lh hR
   clear hR hwent
   go_wp2
   go_end0
   first
    | exact ⟨rfl, u1, HWE.out⟩
    | (rw [HR.out]; exact ⟨rfl, u1, HWE.out⟩)
set_option maxRecDepth 100000 in
theorem Xis (w : World) (t : List UInt8) (ht : t.length ≤ 40000) :
  Calls Tryz.prog 11 #[.string (Xaa t)] w fun e w' => e = .returned (.string (Xaa (fin (tyT t)).1)) ∧ Below w.heap.size w w' := by
 have hmf : ∀ (fn : Fn) (first cap : Array Value) (w : World), (Instr.makeFunc fn first cap).run Tryz.prog w = .ok (.func fn first cap) w := fun _ _ _ _ => rfl
 obtain ⟨X, hX⟩ : ∃ X : World, X = w.alloc (.cells #[.string (Xaa t)] 9) := ⟨_, rfl⟩
 have hg : X.heap[w.heap.size]? = some (.cells #[.string (Xaa t)] 9 (0, 0)) := by rw [hX]; exact heap_alloc_new _ _
 have hbx : Below w.heap.size w X := by rw [hX]; exact (Below.refl _ _).alloc (Nat.le_refl _) _
 have HWR := lh (Xhi 22 #[.pointer (some ⟨w.heap.size, 0, none⟩)] X (tyT t) (fun _ _ => rfl) (Xoh t ht hg))
 have HX := lh hX
 have HBX := lh hbx
 clear hX hg hbx
 go_enter Tryz.func11, Tryz.ntmps11
 go_wp2_with fail
 rw [← HX.out]
 refine HWR.out.mono ?_
 rintro e1 w1 ⟨rfl, hb1⟩
 have HB1 := lh (HBX.out.trans (hb1.mono HBX.out.size))
 clear hb1
 go_wp2
 go_ret
 exact ⟨rfl, HB1.out⟩
section
set_option maxRecDepth 100000
open Go Go.RowKit
def Xsf : List (String × DataW Unit) := [("math/bits.deBruijn32tab", Rows.laid_math_bits_deBruijn32tab), ("math/bits.deBruijn64tab", Rows.laid_math_bits_deBruijn64tab), ("internal/strconv.uint64pow10", Rows.laid_internal_strconv_uint64pow10)]
theorem Xnn : ownKnob Tryz.prog.godebug = none := by kernel_rfl
theorem laid_is : (Rows.laid_internal_strconv_uint64pow10 : DataW Unit) = Lib.tabData .u64 Lib.pow10Tab := by kernel_rfl
theorem Xoe {W : World} (h : laidMetH Tryz.prog Xsf W) : TabW W := by
 have h1 : laidMet Tryz.prog Xsf W := h
 have h2 : laidMet Tryz.prog [("internal/strconv.uint64pow10", Lib.tabData .u64 Lib.pow10Tab)] W := by
  rw [← laid_is]; exact h1.tail.tail
 exact Lib.tabIs_of_head (g := 0) (t := 129) (e := 122) (n := 20) (by kernel_rfl) (by kernel_rfl) (by kernel_rfl) (by kernel_rfl) (by kernel_rfl) (by kernel_rfl) h2
theorem door_met (os : Os) (args : Array Value) : laidMetH Tryz.prog Xsf ((World.doorLaid Tryz.prog 200 os).forCall (fun _ _ => 0) ⟨#[], args, []⟩).memory :=
 laidMetH_of_parts3 (fuel := 8) (laidMet_of_run' 8 (by kernel_rfl) (by kernel_rfl)) (by kernel_rfl) (by kernel_rfl)
end
end Go.Proofs.YtodociiaobjfgaaGreatDoor
