/- Layer 8: the walk of HatchAgrees. -/
import Derived.Test.YtadkimnpeachpaaGreatDoorPvl0
import Derived.Test.YtadkimnpeachpaaGreatDoorEhK
set_option linter.unusedVariables false
set_option linter.unusedSimpArgs false
namespace Go.Proofs.YtadkimnpeachpaaGreatDoor
open Go.RowKit

theorem CRow.at_ {w : World} {base : Nat} {xs : List Int} {A : Option Addr} {n c : Nat} (h : CRow w base xs (.slice A n c)) (hp : 0 < xs.length) : ∃ g, A = some ⟨g, 0, none⟩ := by
  rcases h with ⟨rfl, -⟩ | ⟨g, cap, cur, e, -⟩
  · simp at hp
  · injection e with e1
    exact ⟨g, e1⟩
theorem exs_formA {w : World} {S : Nat → Prop} {es : List Ex} {v : Value} (h : IsExs w S es v) : ∃ A c, v = .slice A es.length c := by
  cases h with | mk es A c f => exact ⟨A, c, rfl⟩
set_option maxRecDepth 100000 in
set_option maxHeartbeats 8000000 in
theorem hatchAgrees_walk (w : World) (x : Ex) {v nv av bv : Value} (h : IsExs w (· < w.heap.size) x.args v) (hnm : x.name.length ≤ 140737488355328) {nms : List (List UInt8)} (hn : Lies KT w (· < w.heap.size) nms nv) {xs : List Int} (ha : Lies KI w (· < w.heap.size) xs av) {ys : List Int} (hy : Lies KI w (· < w.heap.size) ys bv) :
    Calls Tryz.prog 4 #[.agg #[.int .i64 x.kind, .int .i64 x.pl, .int .i64 x.num, .string (strOf x.name), v], nv, av, bv] w fun r w' => r = .returned (.bool true) ∧ Below w.heap.size w w' := by
  obtain ⟨A, c, rfl⟩ := exs_formA h
  obtain ⟨n, hn_⟩ : ∃ n, n = x.args.length := ⟨_, rfl⟩
  rw [← hn_] at h ⊢
  obtain ⟨An, cn, rfl, hcn, hMn⟩ := hn.form
  obtain ⟨Aa, ca, rfl, hca, hMa⟩ := ha.form
  obtain ⟨Ay, cy, rfl, hcy, hMy⟩ := hy.form
  obtain ⟨nn, hnn⟩ : ∃ nn, nn = nms.length := ⟨_, rfl⟩
  obtain ⟨nx, hnx⟩ : ∃ nx, nx = xs.length := ⟨_, rfl⟩
  obtain ⟨ny, hny⟩ : ∃ ny, ny = ys.length := ⟨_, rfl⟩
  rw [← hnn] at hn hcn hMn ⊢
  rw [← hnx] at ha hca hMa ⊢
  rw [← hny] at hy hcy hMy ⊢
  have HWE : Hid (∀ wx, Below w.heap.size w wx → Calls Tryz.prog 7 #[.agg #[.int .i64 x.kind, .int .i64 x.pl, .int .i64 x.num, .string (strOf x.name), .slice A n c], .int .i64 20000, .int .i64 300] wx (WeighPost wx (weigh x 20000 300))) := Lib.hid fun wx hb => by
    have := (weigh_any h x.kind x.pl x.num 20000 300 x.name wx hb hb.size hnm (by omega) (by omega) (by omega) (by omega)).1
    rw [Ex.eta] at this
    exact this
  have hlight : weigh x 20000 300 ≤ 20000 → nn ≤ 20 → nx = nn → ny = nn →
      (∀ wx, Below w.heap.size w wx → Calls Tryz.prog 11 #[.slice Ay ny cy] wx fun r w' => ∃ v', r = .returned v' ∧ CRow w' wx.heap.size ys v' ∧ (∃ A' c', v' = .slice A' ny c') ∧ Below wx.heap.size wx w') ∧
      (∀ (wx : World) (zs : List Int) (iv : Value), Below w.heap.size w wx → Lies KI wx (· < wx.heap.size) zs iv → Calls Tryz.prog 10 #[.agg #[.int .i64 x.kind, .int .i64 x.pl, .int .i64 x.num, .string (strOf x.name), .slice A n c], .slice An nn cn, iv] wx fun r w' => r = .returned (.int .i64 (valE nms zs x)) ∧ Below wx.heap.size wx w') := by
    intro hw hl1 hl2 hl3
    obtain ⟨hpt, hdt⟩ := light_parts x 20000 300 (by omega) hw
    refine ⟨fun wx hb => ?_, fun wx zs iv hb hi' => ?_⟩
    · refine (copyInts_any (hy.below hb) (by omega) (fun b hlt => Nat.lt_of_lt_of_le hlt hb.size)).mono fun r w' => ?_
      rintro ⟨v', rfl, ho, hbs⟩
      obtain ⟨A', c', e, -⟩ := ho.lies.form
      exact ⟨v', rfl, CRow.of ho (by omega), ⟨A', c', by rw [e, hny]⟩, hbs⟩
    · exact hvalue_any ((hn.below hb).keep (fun _ _ => rfl) (fun b hlt => Nat.lt_of_lt_of_le hlt hb.size)) hi' ((h.bel hb).keep (fun _ _ => rfl) (fun b hlt => Nat.lt_of_lt_of_le hlt hb.size)) hnm (by omega) (by omega) wx (Below.refl _ _)
  have HMT : Hid (∀ (wx : World) (s : List UInt8), Below w.heap.size w wx → Calls Tryz.prog 15 #[.agg #[.int .i64 x.kind, .int .i64 x.pl, .int .i64 x.num, .string (strOf x.name), .slice A n c], .string (strOf s)] wx fun r w' => r = .returned (.bool (menE s x)) ∧ Below wx.heap.size wx w') := Lib.hid fun wx s hb => by
    have := mentions_any h x.kind x.pl x.num x.name s wx hb hb.size
    rw [Ex.eta] at this
    exact this
  have HNM : Hid (∀ (wx : World) (j : Nat) (hj : j < nms.length), Below w.heap.size w wx → ∃ b off, An = some ⟨b, off, none⟩ ∧ b < w.heap.size ∧ wx.cell? ⟨b, off + j, none⟩ = some (.string (strOf nms[j]))) := Lib.hid fun wx j hj hb => by
    obtain ⟨b, off, e, hlt, h0, -⟩ := (hn.below hb).text j hj
    exact ⟨b, off, e, hlt, h0⟩
  have HXA : Hid (∀ (wx : World) (j : Nat) (hj : j < xs.length), Below w.heap.size w wx → ∃ b off, Aa = some ⟨b, off, none⟩ ∧ b < w.heap.size ∧ wx.cell? ⟨b, off + j, none⟩ = some (.int .i64 xs[j])) := Lib.hid fun wx j hj hb => by
    obtain ⟨b, off, e, hlt, h0, -⟩ := (ha.below hb).int j hj
    exact ⟨b, off, e, hlt, h0⟩
  have HLA : Hid (∀ (wx : World), Below w.heap.size w wx → Lies KI wx (· < wx.heap.size) xs (.slice Aa nx ca)) := Lib.hid fun wx hb => (ha.below hb).keep (fun _ _ => rfl) (fun b hlt => Nat.lt_of_lt_of_le hlt hb.size)
  have HIX : Hid (∀ (q : Nat) (hq : q < xs.length), In64 xs[q]) := Lib.hid fun q hq => by obtain ⟨b, off, e, -, -, h0⟩ := ha.int q hq; exact h0
  have HIY : Hid (∀ (q : Nat) (hq : q < ys.length), In64 ys[q]) := Lib.hid fun q hq => by obtain ⟨b, off, e, -, -, h0⟩ := hy.int q hq; exact h0
  have HLT := Lib.hid hlight
  have HNN := Lib.hid hnn
  have HNX := Lib.hid hnx
  have HNY := Lib.hid hny
  clear hlight h hn ha hy hnm hn_ hnn hnx hny
  obtain ⟨yy, hyy⟩ : ∃ yy, yy = valE nms xs x := ⟨_, rfl⟩
  generalize x.kind = kk at HWE HLT HMT ⊢
  generalize x.pl = pp at HWE HLT HMT ⊢
  generalize x.num = mm at HWE HLT HMT ⊢
  generalize strOf x.name = SS at HWE HLT HMT ⊢
  have HYY := Lib.hid hyy
  clear hyy
  obtain ⟨X, hX⟩ : ∃ X : World, X = w.alloc (.cells #[.int .i64 kk, .int .i64 pp, .int .i64 mm, .string SS, .slice A n c] 24) := ⟨_, rfl⟩
  have hbx : Below w.heap.size w X := by rw [hX]; exact (Below.refl _ _).alloc (Nat.le_refl _) _
  have hrow : ExBlk X w.heap.size kk pp mm SS (.slice A n c) := by rw [hX]; exact ExBlk.new _ _ _ _ _ _
  have HAL : Hid (Calls Tryz.prog 6 #[] X fun e w' => e = .returned (.bool true) ∧ Below X.heap.size X w') := Lib.hid (alive_any X)
  have HX := Lib.hid hX
  have HBX := Lib.hid hbx
  have HXS : Hid (w.heap.size < X.heap.size) := Lib.hid (by rw [hX]; simp)
  have HROW := Lib.hid hrow
  clear hX hbx hrow
  have HCL : Hid (∀ wx, Below X.heap.size X wx → wx.cell? ⟨w.heap.size, 0, none⟩ = some (.int .i64 kk) ∧ wx.cell? ⟨w.heap.size, 1, none⟩ = some (.int .i64 pp) ∧ wx.cell? ⟨w.heap.size, 2, none⟩ = some (.int .i64 mm) ∧ wx.cell? ⟨w.heap.size, 3, none⟩ = some (.string SS) ∧ wx.cell? ⟨w.heap.size, 4, none⟩ = some (.slice A n c)) := Lib.hid fun wx hb => by
    have hk : ExBlk wx w.heap.size kk pp mm SS (.slice A n c) := HROW.out.below hb HXS.out
    exact ⟨hk.c0, hk.c1, hk.c2, hk.c3, hk.c4⟩
  go_enter Tryz.func4, Tryz.ntmps4
  go_wp2_with fail
  rw [← HX.out]
  refine HAL.out.mono ?_
  rintro e1 w1 ⟨rfl, hb1⟩
  have HB1 := Lib.hid hb1
  have HD1 := Lib.hid (HBX.out.trans (hb1.mono HBX.out.size))
  obtain ⟨q0, q1, q2, q3, q4⟩ := HCL.out w1 hb1
  clear hb1
  go_wp2_with fail
  refine (HWE.out w1 HD1.out).mono ?_
  rintro e2 w2 ⟨rfl, hb2⟩
  clear q0 q1 q2 q3 q4
  have HB2 := Lib.hid (HB1.out.trans (hb2.mono HB1.out.size))
  have HD2 := Lib.hid (HD1.out.trans (hb2.mono HD1.out.size))
  clear hb2
  obtain ⟨G, hG⟩ : ∃ G, G = weigh x 20000 300 := ⟨_, rfl⟩
  rw [← hG]
  rw [← hG] at HLT
  clear hG HWE
  by_cases hw : 20000 < G
  · have hd : decide (20000 < G) = true := decide_eq_true hw
    go_wp2
    go_ret
    exact ⟨rfl, HD2.out⟩
  have hd : decide (20000 < G) = false := decide_eq_false hw
  by_cases ht : 20 < nn
  · have hd2 : decide ((20 : Int) < (nn : Int)) = true := decide_eq_true (by omega)
    have hd4 : (20 : Int) < (nn : Int) := by omega
    go_wp2
    go_ret
    exact ⟨rfl, HD2.out⟩
  have hd2 : decide ((20 : Int) < (nn : Int)) = false := decide_eq_false (by omega)
  have hd4 : ¬ (20 : Int) < (nn : Int) := by omega
  by_cases ht2 : nx = nn
  case neg =>
    have hd3 : ((nx : Int) != (nn : Int)) = true := by rw [bne_iff_ne]; omega
    have hd5 : ¬ (nx : Int) = (nn : Int) := by omega
    go_wp2
    go_ret
    exact ⟨rfl, HD2.out⟩
  by_cases ht3 : ny = nn
  case neg =>
    have hd3 : ((ny : Int) != (nn : Int)) = true := by rw [bne_iff_ne]; omega
    have hd5 : ¬ (ny : Int) = (nn : Int) := by omega
    subst ht2
    go_wp2
    go_ret
    exact ⟨rfl, HD2.out⟩
  obtain ⟨k1, k2⟩ := HLT.out (by omega) (by omega) ht2 ht3
  subst ht2
  obtain rfl : ny = nx := ht3
  have HCI := Lib.hid k1
  have HV := Lib.hid k2
  clear k1 k2 HLT hw ht
  go_wp2_with fail
  refine (HCI.out w2 HD2.out).mono ?_
  rintro e3 w3 ⟨v3, rfl, hr3, ⟨Ac, cc, rfl⟩, hb3⟩
  have HR3 := Lib.hid hr3
  have HB3 := Lib.hid hb3
  clear hr3 hb3
  go_wp2
  go_loopw [10] (fun i wr => ∃ j : Nat, j ≤ ny ∧ i = .int .i64 j ∧ Hid (∃ L : List Int, L.length = ny ∧ (∀ (q : Nat) (hq : q < L.length), In64 L[q]) ∧ (∀ (q : Nat) (hq : q < nms.length), q < j → menE nms[q] x = true → L[q]? = xs[q]?) ∧ CRow wr w2.heap.size L (.slice Ac ny cc)) ∧ Hid (Below w2.heap.size w2 wr)) (fun i _ => ny - (intOf i).toNat)
  case atStart => exact ⟨0, Nat.zero_le _, rfl, Lib.hid ⟨ys, HNY.out.symm, HIY.out, fun q _ hq => absurd hq (by omega), HR3.out⟩, HB3⟩
  case round =>
    obtain ⟨wo, rfl⟩ : ∃ wo : World, wo = wr := ⟨_, rfl⟩
    obtain ⟨j, hj, rfl, HL, HBL⟩ := hrel
    have HDW := Lib.hid (HD2.out.trans (HBL.out.mono HD2.out.size))
    have HBW := Lib.hid (HB2.out.trans (HBL.out.mono HB2.out.size))
    by_cases hlt : j < ny
    · have hje : j < nms.length := by rw [← HNN.out]; exact hlt
      have hjx : j < xs.length := by rw [← HNX.out]; exact hlt
      obtain ⟨b, off, rfl, hbb, r0⟩ := HNM.out wo j hje HDW.out
      obtain ⟨L, hL1, hL2, hL3, hL4⟩ := HL.out
      obtain ⟨g, rfl⟩ := hL4.at_ (by omega)
      have HMC := Lib.hid (fun wx hb => HMT.out wx nms[j] hb)
      have hwj : IntKind.i64.wrap ((j : Int) + 1) = (j : Int) + 1 := IntWalk.i64_in _ ⟨by omega, by omega⟩
      have HKS : Hid (∀ wx, Below wo.heap.size wo wx → wx.cell? ⟨w.heap.size, 0, none⟩ = some (.int .i64 kk) ∧ wx.cell? ⟨w.heap.size, 1, none⟩ = some (.int .i64 pp) ∧ wx.cell? ⟨w.heap.size, 2, none⟩ = some (.int .i64 mm) ∧ wx.cell? ⟨w.heap.size, 3, none⟩ = some (.string SS) ∧ wx.cell? ⟨w.heap.size, 4, none⟩ = some (.slice A n c) ∧ wx.cell? ⟨b, off + j, none⟩ = some (.string (strOf nms[j]))) := Lib.hid fun wx hb => by
        obtain ⟨a0, a1, a2, a3, a4⟩ := HCL.out wx (HBW.out.trans (hb.mono HBW.out.size))
        exact ⟨a0, a1, a2, a3, a4, (hb.cell (p := ⟨b, off + j, none⟩) (by have := HDW.out.size; show b < wo.heap.size; omega)).trans r0⟩
      cases hme : menE nms[j] x with
      | true =>
        rw [hme] at HMC
        have HLN : Hid (∀ (q : Nat) (hq : q < nms.length), q < j + 1 → menE nms[q] x = true → (L.set j xs[j])[q]? = xs[q]?) := Lib.hid fun q hq hqj hm => by
          by_cases e : q = j
          · subst e
            rw [List.getElem?_set_self (by omega), List.getElem?_eq_getElem hjx]
          · rw [List.getElem?_set_ne (fun h => e h.symm)]
            exact hL3 q hq (by omega) hm
        have HLI : Hid (∀ (q : Nat) (hq : q < (L.set j xs[j]).length), In64 (L.set j xs[j])[q]) := Lib.hid fun q hq => by
          rw [List.getElem_set]
          split
          · exact HIX.out j hjx
          · exact hL2 q (by simpa using hq)
        have HL4 := Lib.hid hL4
        have HL1 := Lib.hid hL1
        obtain ⟨b9, off9, rfl, hb9, -⟩ := HXA.out wo j hjx HDW.out
        have HX9 : Hid (∀ wx, Below wo.heap.size wo wx → wx.cell? ⟨b9, off9 + j, none⟩ = some (.int .i64 xs[j])) := Lib.hid fun wx hb => by
          obtain ⟨b8, off8, e8, -, h8⟩ := HXA.out wx j hjx (HDW.out.trans (hb.mono HDW.out.size))
          cases e8
          exact h8
        generalize xs[j] = xj at HLN HLI HX9
        generalize strOf nms[j] = NM at HKS HMC r0
        clear HL hL1 hL2 hL3 hL4 hme
        go_upto_region 9 with fail
        have HDD : Hid (Below wo.heap.size wo wo.drew) := Lib.hid (Below.refl _ _).drew
        refine wp_region_held_drew (S := fun wx => wx.cell? ⟨w.heap.size, 0, none⟩ = some (.int .i64 kk) ∧ wx.cell? ⟨w.heap.size, 1, none⟩ = some (.int .i64 pp) ∧ wx.cell? ⟨w.heap.size, 2, none⟩ = some (.int .i64 mm) ∧ wx.cell? ⟨w.heap.size, 3, none⟩ = some (.string SS) ∧ wx.cell? ⟨w.heap.size, 4, none⟩ = some (.slice A n c) ∧ wx.cell? ⟨b, off + j, none⟩ = some (.string NM)) (by kernel_rfl) (HKS.out _ HDD.out) (fun hHeld => ?_)
        refine take_at (i := 0) (oi := _) (v := .agg #[.int .i64 kk, .int .i64 pp, .int .i64 mm, .string SS, .slice A n c]) rfl rfl (by kernel_rfl) (by kernel_rfl) (by kernel_rfl) (fun _ _ _ h => h) (Or.inl ⟨by rfl, fun W hS => ?_⟩) hHeld ?_
        · obtain ⟨s0_, s1_, s2_, s3_, s4_, s5_⟩ := hS; go_simp
        simp only [List.setIfInBounds_toArray, List.set_cons_zero, List.set_cons_succ]
        refine take_at (i := 1) (oi := _) (v := .slice (some ⟨b, off, none⟩) ny cn) rfl rfl (by kernel_rfl) (by kernel_rfl) (by kernel_rfl) (fun _ _ _ h => h) (Or.inl ⟨by rfl, fun W hS => ?_⟩) hHeld ?_
        · obtain ⟨s0_, s1_, s2_, s3_, s4_, s5_⟩ := hS; go_simp
        simp only [List.setIfInBounds_toArray, List.set_cons_zero, List.set_cons_succ]
        refine take_at (i := 2) (oi := _) (v := .int .i64 (j : Nat)) rfl rfl (by kernel_rfl) (by kernel_rfl) (by kernel_rfl) (fun _ _ _ h => h) (Or.inl ⟨by rfl, fun W hS => ?_⟩) hHeld ?_
        · obtain ⟨s0_, s1_, s2_, s3_, s4_, s5_⟩ := hS; go_simp
        simp only [List.setIfInBounds_toArray, List.set_cons_zero, List.set_cons_succ]
        refine take_at (i := 3) (oi := _) (v := .pointer (some ⟨b, off + j, none⟩)) rfl rfl (by kernel_rfl) (by kernel_rfl) (by kernel_rfl) (fun _ _ _ h => h) (Or.inl ⟨by rfl, fun W hS => ?_⟩) hHeld ?_
        · obtain ⟨s0_, s1_, s2_, s3_, s4_, s5_⟩ := hS; go_simp
        simp only [List.setIfInBounds_toArray, List.set_cons_zero, List.set_cons_succ]
        refine take_at (i := 4) (oi := _) (v := .string NM) rfl rfl (by kernel_rfl) (by kernel_rfl) (by kernel_rfl) (fun _ _ _ h => h) (Or.inl ⟨by rfl, fun W hS => ?_⟩) hHeld ?_
        · obtain ⟨s0_, s1_, s2_, s3_, s4_, s5_⟩ := hS; go_simp
        simp only [List.setIfInBounds_toArray, List.set_cons_zero, List.set_cons_succ]
        refine wpAnyH_ready (rs := [5]) (by kernel_rfl) (by simp) ?_
        refine AllReadyH.cons rfl (fun K hK => ?_) AllReadyH.nil
        go_simp
        refine (HMC.out _ (HDW.out.trans (HDD.out.mono HDW.out.size))).mono ?_
        rintro e w6 ⟨rfl, hbq⟩
        have HE6 : Hid (Below wo.heap.size wo w6) := Lib.hid (HDD.out.trans (hbq.mono HDD.out.size))
        clear hbq hHeld
        go_wp2_with fail
        refine hK.out _ _ (HKS.out _ HE6.out) (fun hHeld => ?_)
        clear hK K
        try simp only [Act.put, List.setIfInBounds_toArray, List.set_cons_zero, List.set_cons_succ]
        refine wpAnyH_done (by kernel_rfl) ?_ _
        have x9 := HX9.out _ HE6.out
        obtain ⟨n1, n2, n3, n4⟩ := (HL4.out.keep HE6.out).set (q := j) (by rw [HL1.out]; exact hlt) xj
        have HN1 := Lib.hid n1
        have HN2 := Lib.hid n2
        have n3b : w6.frozen? ⟨g, 0 + j, none⟩ = false := by rw [Nat.zero_add]; exact n3
        have n4b : w6.cell? ⟨g, 0 + j, none⟩ = some (.int .i64 (L[j]'(by rw [HL1.out]; exact hlt))) := by rw [Nat.zero_add]; exact n4
        have hgs : g < w6.heap.size := (World.block_lt_of_cell? w6 _ n4)
        clear n1 n2
        go_wp2
        go_roundw
        case rel => exact ⟨j + 1, by omega, by go_num, Lib.hid ⟨L.set j xj, by rw [List.length_set]; exact HL1.out, HLI.out, HLN.out, HN1.out⟩, Lib.hid ((HBL.out.trans (HE6.out.mono HBL.out.size)).setCell (p := ⟨g, j, none⟩) HN2.out _)⟩
        case measure => first | (simp [intOf]; done) | (simp [intOf]; omega)
      | false =>
        rw [hme] at HMC
        have HLN : Hid (∀ (q : Nat) (hq : q < nms.length), q < j + 1 → menE nms[q] x = true → L[q]? = xs[q]?) := Lib.hid fun q hq hqj hm => by
          by_cases e : q = j
          · subst e
            rw [hme] at hm
            cases hm
          · exact hL3 q hq (by omega) hm
        have HL4 := Lib.hid hL4
        have HL1 := Lib.hid hL1
        have HLI := Lib.hid hL2
        generalize strOf nms[j] = NM at HKS HMC r0
        clear HL hL1 hL2 hL3 hL4 hme
        go_upto_region 9 with fail
        have HDD : Hid (Below wo.heap.size wo wo.drew) := Lib.hid (Below.refl _ _).drew
        refine wp_region_held_drew (S := fun wx => wx.cell? ⟨w.heap.size, 0, none⟩ = some (.int .i64 kk) ∧ wx.cell? ⟨w.heap.size, 1, none⟩ = some (.int .i64 pp) ∧ wx.cell? ⟨w.heap.size, 2, none⟩ = some (.int .i64 mm) ∧ wx.cell? ⟨w.heap.size, 3, none⟩ = some (.string SS) ∧ wx.cell? ⟨w.heap.size, 4, none⟩ = some (.slice A n c) ∧ wx.cell? ⟨b, off + j, none⟩ = some (.string NM)) (by kernel_rfl) (HKS.out _ HDD.out) (fun hHeld => ?_)
        refine take_at (i := 0) (oi := _) (v := .agg #[.int .i64 kk, .int .i64 pp, .int .i64 mm, .string SS, .slice A n c]) rfl rfl (by kernel_rfl) (by kernel_rfl) (by kernel_rfl) (fun _ _ _ h => h) (Or.inl ⟨by rfl, fun W hS => ?_⟩) hHeld ?_
        · obtain ⟨s0_, s1_, s2_, s3_, s4_, s5_⟩ := hS; go_simp
        simp only [List.setIfInBounds_toArray, List.set_cons_zero, List.set_cons_succ]
        refine take_at (i := 1) (oi := _) (v := .slice (some ⟨b, off, none⟩) ny cn) rfl rfl (by kernel_rfl) (by kernel_rfl) (by kernel_rfl) (fun _ _ _ h => h) (Or.inl ⟨by rfl, fun W hS => ?_⟩) hHeld ?_
        · obtain ⟨s0_, s1_, s2_, s3_, s4_, s5_⟩ := hS; go_simp
        simp only [List.setIfInBounds_toArray, List.set_cons_zero, List.set_cons_succ]
        refine take_at (i := 2) (oi := _) (v := .int .i64 (j : Nat)) rfl rfl (by kernel_rfl) (by kernel_rfl) (by kernel_rfl) (fun _ _ _ h => h) (Or.inl ⟨by rfl, fun W hS => ?_⟩) hHeld ?_
        · obtain ⟨s0_, s1_, s2_, s3_, s4_, s5_⟩ := hS; go_simp
        simp only [List.setIfInBounds_toArray, List.set_cons_zero, List.set_cons_succ]
        refine take_at (i := 3) (oi := _) (v := .pointer (some ⟨b, off + j, none⟩)) rfl rfl (by kernel_rfl) (by kernel_rfl) (by kernel_rfl) (fun _ _ _ h => h) (Or.inl ⟨by rfl, fun W hS => ?_⟩) hHeld ?_
        · obtain ⟨s0_, s1_, s2_, s3_, s4_, s5_⟩ := hS; go_simp
        simp only [List.setIfInBounds_toArray, List.set_cons_zero, List.set_cons_succ]
        refine take_at (i := 4) (oi := _) (v := .string NM) rfl rfl (by kernel_rfl) (by kernel_rfl) (by kernel_rfl) (fun _ _ _ h => h) (Or.inl ⟨by rfl, fun W hS => ?_⟩) hHeld ?_
        · obtain ⟨s0_, s1_, s2_, s3_, s4_, s5_⟩ := hS; go_simp
        simp only [List.setIfInBounds_toArray, List.set_cons_zero, List.set_cons_succ]
        refine wpAnyH_ready (rs := [5]) (by kernel_rfl) (by simp) ?_
        refine AllReadyH.cons rfl (fun K hK => ?_) AllReadyH.nil
        go_simp
        refine (HMC.out _ (HDW.out.trans (HDD.out.mono HDW.out.size))).mono ?_
        rintro e w6 ⟨rfl, hbq⟩
        have HE6 : Hid (Below wo.heap.size wo w6) := Lib.hid (HDD.out.trans (hbq.mono HDD.out.size))
        clear hbq hHeld
        go_wp2_with fail
        refine hK.out _ _ (HKS.out _ HE6.out) (fun hHeld => ?_)
        clear hK K
        try simp only [Act.put, List.setIfInBounds_toArray, List.set_cons_zero, List.set_cons_succ]
        refine wpAnyH_done (by kernel_rfl) ?_ _
        go_wp2
        go_roundw
        case rel => exact ⟨j + 1, by omega, by go_num, Lib.hid ⟨L, HL1.out, HLI.out, HLN.out, HL4.out.keep HE6.out⟩, Lib.hid (HBL.out.trans (HE6.out.mono HBL.out.size))⟩
        case measure => first | (simp [intOf]; done) | (simp [intOf]; omega)
    · obtain rfl : j = ny := by omega
      obtain ⟨L, hL1, hL2, hL3, hL4⟩ := HL.out
      have hve : valE nms L x = yy := by
        rw [HYY.out]
        exact (valE_eq x (fun i hi hm => hL3 i hi (by rw [HNN.out]; exact hi) hm)).symm
      have hle : Lies KI wo (· < wo.heap.size) L (.slice Ac j cc) := hL4.lies hL2
      have HV1 : Hid (∀ wx, Below wo.heap.size wo wx → Calls Tryz.prog 10 #[.agg #[.int .i64 kk, .int .i64 pp, .int .i64 mm, .string SS, .slice A n c], .slice An j cn, .slice Aa j ca] wx fun r w' => r = .returned (.int .i64 yy) ∧ Below wx.heap.size wx w') := Lib.hid fun wx hb => by
        have hbx := HDW.out.trans (hb.mono HDW.out.size)
        rw [HYY.out]
        exact HV.out wx xs _ hbx (HLA.out wx hbx)
      have HV2 : Hid (∀ wx, Below wo.heap.size wo wx → Calls Tryz.prog 10 #[.agg #[.int .i64 kk, .int .i64 pp, .int .i64 mm, .string SS, .slice A n c], .slice An j cn, .slice Ac j cc] wx fun r w' => r = .returned (.int .i64 yy) ∧ Below wx.heap.size wx w') := Lib.hid fun wx hb => by
        rw [← hve]
        exact HV.out wx L _ (HDW.out.trans (hb.mono HDW.out.size)) ((hle.below hb).keep (fun _ _ => rfl) (fun b hlt => Nat.lt_of_lt_of_le hlt hb.size))
      have HKS : Hid (∀ wx, Below wo.heap.size wo wx → wx.cell? ⟨w.heap.size, 0, none⟩ = some (.int .i64 kk) ∧ wx.cell? ⟨w.heap.size, 1, none⟩ = some (.int .i64 pp) ∧ wx.cell? ⟨w.heap.size, 2, none⟩ = some (.int .i64 mm) ∧ wx.cell? ⟨w.heap.size, 3, none⟩ = some (.string SS) ∧ wx.cell? ⟨w.heap.size, 4, none⟩ = some (.slice A n c)) := Lib.hid fun wx hb => HCL.out wx (HBW.out.trans (hb.mono HBW.out.size))
      clear HL hL1 hL2 hL3 hL4 hve hle HV HMT HNM HXA HLA
      go_upto_region 11 with fail
      have HDD : Hid (Below wo.heap.size wo wo.drew) := Lib.hid (Below.refl _ _).drew
      refine wp_region_held_drew (S := fun wx => wx.cell? ⟨w.heap.size, 0, none⟩ = some (.int .i64 kk) ∧ wx.cell? ⟨w.heap.size, 1, none⟩ = some (.int .i64 pp) ∧ wx.cell? ⟨w.heap.size, 2, none⟩ = some (.int .i64 mm) ∧ wx.cell? ⟨w.heap.size, 3, none⟩ = some (.string SS) ∧ wx.cell? ⟨w.heap.size, 4, none⟩ = some (.slice A n c)) (by kernel_rfl) (HKS.out _ HDD.out) (fun hHeld => ?_)
      refine take_at (i := 0) (oi := _) (v := .agg #[.int .i64 kk, .int .i64 pp, .int .i64 mm, .string SS, .slice A n c]) rfl rfl (by kernel_rfl) (by kernel_rfl) (by kernel_rfl) (fun _ _ _ h => h) (Or.inl ⟨by rfl, fun W hS => ?_⟩) hHeld ?_
      · obtain ⟨s0_, s1_, s2_, s3_, s4_⟩ := hS; go_simp
      simp only [List.setIfInBounds_toArray, List.set_cons_zero, List.set_cons_succ]
      refine take_at (i := 1) (oi := _) (v := .slice An j cn) rfl rfl (by kernel_rfl) (by kernel_rfl) (by kernel_rfl) (fun _ _ _ h => h) (Or.inl ⟨by rfl, fun W hS => ?_⟩) hHeld ?_
      · obtain ⟨s0_, s1_, s2_, s3_, s4_⟩ := hS; go_simp
      simp only [List.setIfInBounds_toArray, List.set_cons_zero, List.set_cons_succ]
      refine take_at (i := 2) (oi := _) (v := .slice Aa j ca) rfl rfl (by kernel_rfl) (by kernel_rfl) (by kernel_rfl) (fun _ _ _ h => h) (Or.inl ⟨by rfl, fun W hS => ?_⟩) hHeld ?_
      · obtain ⟨s0_, s1_, s2_, s3_, s4_⟩ := hS; go_simp
      simp only [List.setIfInBounds_toArray, List.set_cons_zero, List.set_cons_succ]
      refine take_at (i := 4) (oi := _) (v := .agg #[.int .i64 kk, .int .i64 pp, .int .i64 mm, .string SS, .slice A n c]) rfl rfl (by kernel_rfl) (by kernel_rfl) (by kernel_rfl) (fun _ _ _ h => h) (Or.inl ⟨by rfl, fun W hS => ?_⟩) hHeld ?_
      · obtain ⟨s0_, s1_, s2_, s3_, s4_⟩ := hS; go_simp
      simp only [List.setIfInBounds_toArray, List.set_cons_zero, List.set_cons_succ]
      refine take_at (i := 5) (oi := _) (v := .slice An j cn) rfl rfl (by kernel_rfl) (by kernel_rfl) (by kernel_rfl) (fun _ _ _ h => h) (Or.inl ⟨by rfl, fun W hS => ?_⟩) hHeld ?_
      · obtain ⟨s0_, s1_, s2_, s3_, s4_⟩ := hS; go_simp
      simp only [List.setIfInBounds_toArray, List.set_cons_zero, List.set_cons_succ]
      refine take_at (i := 6) (oi := _) (v := .slice Ac j cc) rfl rfl (by kernel_rfl) (by kernel_rfl) (by kernel_rfl) (fun _ _ _ h => h) (Or.inl ⟨by rfl, fun W hS => ?_⟩) hHeld ?_
      · obtain ⟨s0_, s1_, s2_, s3_, s4_⟩ := hS; go_simp
      simp only [List.setIfInBounds_toArray, List.set_cons_zero, List.set_cons_succ]
      refine wpAnyH_ready (rs := [3]) (by kernel_rfl) (by simp) ?_
      refine AllReadyH.cons rfl (fun K hK => ?_) AllReadyH.nil
      go_simp
      refine (HV1.out _ HDD.out).mono ?_
      rintro e wa ⟨rfl, hbq⟩
      have HEa : Hid (Below wo.heap.size wo wa) := Lib.hid (HDD.out.trans (hbq.mono HDD.out.size))
      clear hbq hHeld
      go_wp2_with fail
      refine hK.out _ _ (HKS.out _ HEa.out) (fun hHeld => ?_)
      clear hK K
      try simp only [Act.put, List.setIfInBounds_toArray, List.set_cons_zero, List.set_cons_succ]
      refine wpAnyH_ready (rs := [7]) (by kernel_rfl) (by simp) ?_
      refine AllReadyH.cons rfl (fun K hK => ?_) AllReadyH.nil
      go_simp
      refine (HV2.out _ HEa.out).mono ?_
      rintro e wb ⟨rfl, hbq⟩
      have HEb : Hid (Below wo.heap.size wo wb) := Lib.hid (HEa.out.trans (hbq.mono HEa.out.size))
      clear hbq hHeld
      go_wp2_with fail
      refine hK.out _ _ (HKS.out _ HEb.out) (fun hHeld => ?_)
      clear hK K
      try simp only [Act.put, List.setIfInBounds_toArray, List.set_cons_zero, List.set_cons_succ]
      refine take_at (i := 8) (oi := _) (v := .bool true) rfl rfl (by kernel_rfl) (by kernel_rfl) (by kernel_rfl) (fun _ _ _ h => h) (Or.inl ⟨by rfl, fun W hS => ?_⟩) hHeld ?_
      · obtain ⟨s0_, s1_, s2_, s3_, s4_⟩ := hS; go_simp
      simp only [List.setIfInBounds_toArray, List.set_cons_zero, List.set_cons_succ]
      refine take_at (i := 9) (oi := _) (v := .bool true) rfl rfl (by kernel_rfl) (by kernel_rfl) (by kernel_rfl) (fun _ _ _ h => h) (Or.inl ⟨by rfl, fun W hS => ?_⟩) hHeld ?_
      · obtain ⟨s0_, s1_, s2_, s3_, s4_⟩ := hS; go_simp
      simp only [List.setIfInBounds_toArray, List.set_cons_zero, List.set_cons_succ]
      refine wpAnyH_done (by kernel_rfl) ?_ _
      go_wp2
      go_ret
      exact ⟨rfl, HDW.out.trans (HEb.out.mono HDW.out.size)⟩
end Go.Proofs.YtadkimnpeachpaaGreatDoor
