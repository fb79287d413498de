/- Xi Xj -/
import Derived.Test.YtihjdfbdpcghdaaDoorZe3
import Derived.Test.YtihjdfbdpcghdaaDoorZe4
import Derived.Test.YtihjdfbdpcghdaaDoorZe5
import Derived.Test.YtihjdfbdpcghdaaDoorZe6
import Derived.IntWalk
section
set_option linter.unusedVariables false
namespace Go.Proofs.YtihjdfbdpcghdaaDoor
open Go.RowKit
def WritesD (w0 : World) (B : Nat) (s : Dc) (a b : Value) : Prop :=
  ∀ (w : World) (Bc Ba : Nat) (u : Value) (T : List (List UInt8)), Below B w0 w → B ≤ w.heap.size → PenAt w Bc Ba B u T →
    Calls Tryd.prog 42 #[penV Bc Ba, .agg #[.int .i64 s.kind, .int .i64 s.pl, .int .i64 s.num, .string (strOf s.name), .string (strOf s.type), a, b]] w (PenPost w Bc Ba B u (adv T (penD s)))
theorem decl_step {w0 : World} {B : Nat} (htab : Tab B w0) (s : Dc) {a b : Value} (hn : s.name.length ≤ 40000) (ht : s.type.length ≤ 40000) (hps : PrsIn w0 (· < B) s.pairs a) (hsm : ∀ p ∈ s.pairs, p.name.length ≤ 40000 ∧ p.type.length ≤ 40000)
    (hbd : WritesB w0 B s.body b) (hbs : ∃ A c, b = .slice A s.body.length c) : WritesD w0 B s a b := by
  obtain ⟨k, p, n, nm, ty, ps, bd⟩ := s
  intro w Bc Ba u T hb hB hp
  have hps : PrsIn w0 (· < B) ps a := hps
  have hsm : ∀ p ∈ ps, p.name.length ≤ 40000 ∧ p.type.length ≤ 40000 := hsm
  have hn : nm.length ≤ 40000 := hn
  have ht : ty.length ≤ 40000 := ht
  have hbd : WritesB w0 B bd b := hbd
  have hbs : ∃ A c, b = .slice A bd.length c := hbs
  show Calls Tryd.prog 42 #[penV Bc Ba, .agg #[.int .i64 k, .int .i64 p, .int .i64 n, .string (strOf nm), .string (strOf ty), a, b]] w (PenPost w Bc Ba B u (adv T (penD ⟨k, p, n, nm, ty, ps, bd⟩)))
  by_cases hq : nameB nm = true
  case neg => exact decl_noname htab hb hB hp hn ht hps hsm hbd hbs hq
  by_cases k1 : k = 1
  · subst k1
    exact decl_1 htab hb hB hp hn ht hps hsm hbd hbs hq
  by_cases k3 : k = 3
  · subst k3
    exact decl_3 htab hb hB hp hn ht hps hsm hbd hbs hq
  by_cases k4 : k = 4
  · subst k4
    exact decl_4 htab hb hB hp hn ht hps hsm hbd hbs hq
  by_cases k5 : k = 5
  · subst k5
    exact decl_5 htab hb hB hp hn ht hps hsm hbd hbs hq
  by_cases k6 : k = 6
  · subst k6
    exact decl_6 htab hb hB hp hn ht hps hsm hbd hbs hq
  by_cases k8 : k = 8
  · subst k8
    exact decl_8 htab hb hB hp hn ht hps hsm hbd hbs hq
  by_cases k2 : k = 2
  · subst k2
    by_cases h4 : 1 ≤ n ∧ n ≤ 4
    · exact decl_2_yes htab hb hB hp hn ht hps hsm hbd hbs hq h4
    · exact decl_2_no htab hb hB hp hn ht hps hsm hbd hbs hq h4
  by_cases k7 : k = 7
  · subst k7
    by_cases h4 : ty = []
    · exact decl_7_b htab hb hB hp hn ht hps hsm hbd hbs hq h4
    · exact decl_7_a htab hb hB hp hn ht hps hsm hbd hbs hq h4
  exact decl_else htab hb hB hp hn ht hps hsm hbd hbs hq (by omega)
def ReadsD (w0 : World) (B : Nat) (ss : List Dc) (V : Value) : Prop :=
  ∃ A c, V = .slice A ss.length c ∧ ss.length ≤ c ∧ c ≤ 9223372036854775807 ∧ ∀ (j : Nat) (hj : j < ss.length), ∃ b off A1 n1 c1 A2 n2 c2, A = some ⟨b, off, none⟩ ∧ b < B ∧
    w0.cell? ⟨b, off + j * 7, none⟩ = some (.int .i64 ss[j].kind) ∧ w0.cell? ⟨b, off + j * 7 + 1, none⟩ = some (.int .i64 ss[j].pl) ∧ w0.cell? ⟨b, off + j * 7 + 2, none⟩ = some (.int .i64 ss[j].num) ∧
    w0.cell? ⟨b, off + j * 7 + 3, none⟩ = some (.string (strOf ss[j].name)) ∧ w0.cell? ⟨b, off + j * 7 + 4, none⟩ = some (.string (strOf ss[j].type)) ∧ w0.cell? ⟨b, off + j * 7 + 5, none⟩ = some (.slice A1 n1 c1) ∧
    w0.cell? ⟨b, off + j * 7 + 6, none⟩ = some (.slice A2 n2 c2) ∧ WritesD w0 B ss[j] (.slice A1 n1 c1) (.slice A2 n2 c2)
theorem penDs_drop {ss : List Dc} {j : Nat} (h : j < ss.length) : penDs (ss.drop j) = cat (penD ss[j]) (penDs (ss.drop (j + 1))) := by
  rw [List.drop_eq_getElem_cons h, penDs]
set_option maxRecDepth 100000 in
set_option maxHeartbeats 2000000 in
theorem program_step {w0 w : World} {Bc Ba B : Nat} {u : Value} {T : List (List UInt8)} {ss : List Dc} {V : Value} (hrs : ReadsD w0 B ss V) (hb : Below B w0 w) (hB : B ≤ w.heap.size) (hp : PenAt w Bc Ba B u T) :
    Calls Tryd.prog 24 #[penV Bc Ba, .agg #[V]] w (PenPost w Bc Ba B u (adv T (penP ss))) := by
  obtain ⟨A, c, rfl, hc, hM, hA⟩ := hrs
  obtain ⟨n, hn⟩ : ∃ n, n = ss.length := ⟨_, rfl⟩
  obtain ⟨Q, hQ⟩ : ∃ Q : Ts, Q = penP ss := ⟨_, rfl⟩
  rw [← hn] at hc ⊢
  rw [← hQ]
  by_cases h4 : n ≤ 64
  · have h4' : decide ((n : Int) ≤ 64) = true := by rw [decide_eq_true_eq]; omega
    have HEQ : Hid (adv T Q = adv T (penDs ss)) := Lib.hid (by rw [hQ]; unfold penP; rw [need_yes (by omega)])
    have HN := Lib.hid hn
    have HA := Lib.hid hA
    have HP := Lib.hid hp
    have HBB := Lib.hid hb
    have hfit := hp.fit
    have HFIT := Lib.hid hfit
    unfold penV
    clear hn hA h4 hp hb hQ hfit
    go_enter Tryd.func24, Tryd.ntmps24
    go_wp2_with fail
    refine (must_yes _).mono ?_
    rintro e w1 ⟨rfl, rfl⟩
    go_wp2_with fail
    go_loopw [14] (fun i wr => ∃ (j : Nat) (u' : Value) (T' : List (List UInt8)), j ≤ n ∧ i = .int .i64 j ∧ Hid (Went w Bc Ba B u wr u' T') ∧ Hid (adv T Q = adv T' (penDs (ss.drop j)))) (fun i _ => n - (intOf i).toNat)
    case atStart => exact ⟨0, u, T, Nat.zero_le _, rfl, Lib.hid ((Went.refl HP.out).alloc _), HEQ⟩
    case round =>
      obtain ⟨wo, rfl⟩ : ∃ wo : World, wo = wr := ⟨_, rfl⟩
      obtain ⟨j, u2, T2, hj, rfl, HW2, HEQ2⟩ := hrel
      by_cases hlt : j < n
      · have hjt : j < ss.length := by rw [← HN.out]; exact hlt
        obtain ⟨b, off, A1, n1, c1, A2, n2, c2, rfl, hbB, r0, r1, r2, r3, r4, r5, r6, hWr⟩ := HA.out j hjt
        have hbw : Below B w0 wo := HBB.out.trans (HW2.out.2.2.below hB (fun x hx => (HP.out.mine hx).1))
        have up : ∀ {i : Nat} {v : Value}, w0.cell? ⟨b, i, none⟩ = some v → wo.cell? ⟨b, i, none⟩ = some v := fun h => (hbw.cell hbB).trans h
        have r0 := up r0
        have r1 := up r1
        have r2 := up r2
        have r3 := up r3
        have r4 := up r4
        have r5 := up r5
        have r6 := up r6
        have hdr := penDs_drop hjt
        obtain ⟨E, hE⟩ : ∃ E, E = ss[j] := ⟨_, rfl⟩
        rw [← hE] at r0 r1 r2 r3 r4 hWr hdr
        clear up hE
        obtain ⟨Y, hY⟩ : ∃ Y : World, Y = wo.alloc (.cells #[.int .i64 E.kind, .int .i64 E.pl, .int .i64 E.num, .string (strOf E.name), .string (strOf E.type), .slice A1 n1 c1, .slice A2 n2 c2] 42) := ⟨_, rfl⟩
        have hwy : Went w Bc Ba B u Y u2 T2 := by rw [hY]; exact HW2.out.alloc _
        have hby : Below B w0 Y := by rw [hY]; exact hbw.alloc (Nat.le_trans hB HW2.out.2.2.size) _
        have hcall := hWr Y Bc Ba u2 T2 hby (Nat.le_trans hB hwy.2.2.size) hwy.1
        have HEQ3 : Hid (adv T Q = adv T2 (cat (penD E) (penDs (ss.drop (j + 1))))) := Lib.hid (by rw [HEQ2.out, hdr])
        have HWY := Lib.hid hwy
        have HY := Lib.hid hY
        have HCALL := Lib.hid hcall
        clear hwy hY hcall hdr hWr hbw hby
        unfold penV at HCALL
        go_wp2_with fail
        rw [← HY.out]
        refine HCALL.out.mono ?_
        rintro e4 w4 hpost
        cases hR : adv T2 (penD E) with
        | none =>
          rw [hR] at hpost
          obtain ⟨rfl, hch⟩ := hpost
          have HNO := Lib.hid (HEQ3.out.trans (adv_cat_none hR _))
          have HCH := Lib.hid (HWY.out.fell hch)
          clear hR hch
          unfold boom
          go_wp2
          refine ⟨rfl, ?_⟩
          rw [HNO.out]
          exact ⟨rfl, HCH.out⟩
        | some T4 =>
          rw [hR] at hpost
          obtain ⟨rfl, u4, hwent⟩ := hpost
          have HW4 := Lib.hid (HWY.out.trans hwent)
          have HEQ5 := Lib.hid (HEQ3.out.trans (adv_cat_some hR _))
          clear hwent hR
          go_wp2_with fail
          go_roundw
          case rel => exact ⟨j + 1, u4, T4, by omega, by go_num, HW4, HEQ5⟩
          case measure => simp [intOf]; omega
      · have hjn : j = n := by omega
        subst hjn
        have hdn : ss.drop j = [] := List.drop_of_length_le (by rw [HN.out]; exact Nat.le_refl _)
        have HFIN : Hid (adv T Q = some T2) := Lib.hid (by rw [HEQ2.out, hdn, penDs]; exact adv_nil HW2.out.1.fit)
        clear hdn
        go_wp2
        go_end0
        rw [HFIN.out]
        exact ⟨rfl, u2, HW2.out⟩
  · have h4' : decide ((n : Int) ≤ 64) = false := by rw [decide_eq_false_iff_not]; omega
    have HNO : Hid (adv T Q = none) := Lib.hid (by rw [hQ]; unfold penP; rw [need_no (by omega)]; rfl)
    clear hn hA hp hb hQ h4
    unfold penV
    go_enter Tryd.func24, Tryd.ntmps24
    go_wp2_with fail
    refine (must_no _).mono ?_
    rintro e w1 ⟨rfl, rfl⟩
    unfold boom
    go_wp2
    refine ⟨rfl, ?_⟩
    rw [HNO.out]
    exact ⟨rfl, (Chg.refl _ _).alloc _⟩
def smallDN (d : Dc) : Prop := d.name.length ≤ 40000 ∧ d.type.length ≤ 40000 ∧ (∀ p ∈ d.pairs, p.name.length ≤ 40000 ∧ p.type.length ≤ 40000) ∧ smallSs 40000 d.body
theorem program_any {w0 w : World} {Bc Ba B : Nat} {u : Value} {T : List (List UInt8)} (htab : Tab B w0) {ss : List Dc} {V : Value} (h : DcsIn w0 (· < B) ss V) (hsm : ∀ (k : Nat) (hk : k < ss.length), smallDN ss[k]) (hb : Below B w0 w) (hB : B ≤ w.heap.size) (hp : PenAt w Bc Ba B u T) :
    Calls Tryd.prog 24 #[penV Bc Ba, .agg #[V]] w (PenPost w Bc Ba B u (adv T (penP ss))) := by
  refine program_step ?_ hb hB hp
  obtain ⟨A, c, fp, fb, rfl, hc, hM, hA, hpr, hbd⟩ := h
  refine ⟨A, c, rfl, hc, hM, fun j hj => ?_⟩
  obtain ⟨b, off, h1, h2, h3, h4, c0, c1, c2, c3, c4, c5, c6⟩ := hA j hj
  obtain ⟨s1, s2, s3, s4⟩ := hsm j hj
  obtain ⟨A1, k1, e1, _, _⟩ := id (hpr j hj)
  obtain ⟨A2, k2, e2, _, _⟩ := (hbd j hj).slice
  have hw := decl_step htab ss[j] s1 s2 (hpr j hj) s3 (block_any htab (hbd j hj) s4) ⟨A2, k2, e2⟩
  rw [e1, e2] at hw
  rw [e1] at c5
  rw [e2] at c6
  exact ⟨b, off, A1, _, k1, A2, _, k2, h1, h2, c0, c1, c2, c3, c4, c5, c6, hw⟩
end Go.Proofs.YtihjdfbdpcghdaaDoor
end
section
set_option linter.unusedVariables false
namespace Go.Proofs.YtihjdfbdpcghdaaDoor
open Go.RowKit
def TabW (w : World) : Prop := Lib.TabIs Tryd.prog w "internal/strconv.uint64pow10" .u64 Lib.pow10Tab
theorem TabW.below {w w1 : World} (h : TabW w) (hb : Below w.heap.size w w1) : TabW w1 := Lib.tabBelow_of_tabIs h w1 hb
theorem TabW.tab {w : World} (h : TabW w) : Tab w.heap.size w := Lib.tabBelow_of_tabIs h
set_option maxRecDepth 100000 in
theorem types_writes {w : World} {g : Nat} (t : List UInt8) (ht : t.length ≤ 40000) (hg : w.heap[g]? = some (.cells #[.string (strOf t)] 9 (0, 0))) : Writes 20 #[.pointer (some ⟨g, 0, none⟩)] w (tyT t) := by
  intro wx Bc Ba hb hB hp
  have hc : wx.cell? ⟨g, 0, none⟩ = some (.string (strOf t)) := by
    rw [cell_of_row wx g 0 _ _ (0, 0) ((hb.block g (lt_of_heap hg)).trans hg)]; rfl
  have HT := Lib.hid (types_any hp hB t ht)
  unfold penV at HT
  unfold penV
  clear hb hg hp
  go_enter Tryd.func20, Tryd.ntmps20
  go_wp2_with fail
  refine HT.out.mono ?_
  rintro e1 w1 hpost
  cases hR : adv [] (tyT t) with
  | none =>
    rw [hR] at hpost
    obtain ⟨rfl, hch⟩ := hpost
    have HCH := Lib.hid hch
    clear hR hch
    unfold boom
    go_wp2
    exact ⟨rfl, rfl, HCH.out⟩
  | some T1 =>
    rw [hR] at hpost
    obtain ⟨rfl, u1, hwent⟩ := hpost
    have HWE := Lib.hid hwent
    have HR := Lib.hid hR
    clear hR hwent
    go_wp2
    go_end0
    first
      | exact ⟨rfl, u1, HWE.out⟩
      | (rw [HR.out]; exact ⟨rfl, u1, HWE.out⟩)
set_option maxRecDepth 100000 in
theorem showType_any (w : World) (t : List UInt8) (ht : t.length ≤ 40000) :
    Calls Tryd.prog 10 #[.string (strOf t)] w fun e w' => e = .returned (.string (strOf (fin (tyT t)).1)) ∧ Below w.heap.size w w' := by
  have hmf : ∀ (fn : Fn) (first cap : Array Value) (w : World), (Instr.makeFunc fn first cap).run Tryd.prog w = .ok (.func fn first cap) w := fun _ _ _ _ => rfl
  obtain ⟨X, hX⟩ : ∃ X : World, X = w.alloc (.cells #[.string (strOf t)] 9) := ⟨_, rfl⟩
  have hg : X.heap[w.heap.size]? = some (.cells #[.string (strOf t)] 9 (0, 0)) := by rw [hX]; exact heap_alloc_new _ _
  have hbx : Below w.heap.size w X := by rw [hX]; exact (Below.refl _ _).alloc (Nat.le_refl _) _
  have HWR := Lib.hid (written_any 20 #[.pointer (some ⟨w.heap.size, 0, none⟩)] X (tyT t) (fun _ _ => rfl) (types_writes t ht hg))
  have HX := Lib.hid hX
  have HBX := Lib.hid hbx
  clear hX hg hbx
  go_enter Tryd.func10, Tryd.ntmps10
  go_wp2_with fail
  rw [← HX.out]
  refine HWR.out.mono ?_
  rintro e1 w1 ⟨rfl, hb1⟩
  have HB1 := Lib.hid (HBX.out.trans (hb1.mono HBX.out.size))
  clear hb1
  go_wp2
  go_ret
  exact ⟨rfl, HB1.out⟩
end Go.Proofs.YtihjdfbdpcghdaaDoor
end
