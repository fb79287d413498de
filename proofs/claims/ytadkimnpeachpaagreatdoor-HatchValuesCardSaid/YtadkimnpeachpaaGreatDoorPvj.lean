/- Layer 8: the walk of HatchValues. -/
import Derived.Test.YtadkimnpeachpaaGreatDoorPvi
import Derived.Test.YtadkimnpeachpaaGreatDoorPmb
import Derived.Test.YtadkimnpeachpaaGreatDoorPmf
import Derived.Test.YtadkimnpeachpaaGreatDoorHa
import Derived.Test.YtadkimnpeachpaaGreatDoorEhK
set_option linter.unusedVariables false
set_option linter.unusedSimpArgs false
namespace Go.Proofs.YtadkimnpeachpaaGreatDoor
open Go.RowKit

theorem exs_form {w : World} {S : Nat → Prop} {es : List Ex} {v : Value} (h : IsExs w S es v) : ∃ A c, v = .slice A es.length c := by
  cases h with | mk es A c f => exact ⟨A, c, rfl⟩
set_option maxRecDepth 100000 in
set_option maxHeartbeats 8000000 in
theorem hatchValues_walk (w : World) (x : Ex) {v nv iv : Value} (h : IsExs w (· < w.heap.size) x.args v) (hnm : x.name.length ≤ 140737488355328) {nms : List (List UInt8)} (hn : Lies KT w (· < w.heap.size) nms nv) {xs : List Int} (hi : Lies KI w (· < w.heap.size) xs iv) :
    Calls Tryz.prog 3 #[.agg #[.int .i64 x.kind, .int .i64 x.pl, .int .i64 x.num, .string (strOf x.name), v], nv, iv] w fun r w' => r = .returned (.bool true) ∧ Below w.heap.size w w' := by
  obtain ⟨A, c, rfl⟩ := exs_form h
  obtain ⟨n, hn_⟩ : ∃ n, n = x.args.length := ⟨_, rfl⟩
  rw [← hn_] at h ⊢
  obtain ⟨An, cn, rfl, hcn, hMn⟩ := hn.form
  obtain ⟨Ai, ci, rfl, hci, hMi⟩ := hi.form
  obtain ⟨nn, hnn⟩ : ∃ nn, nn = nms.length := ⟨_, rfl⟩
  obtain ⟨nx, hnx⟩ : ∃ nx, nx = xs.length := ⟨_, rfl⟩
  rw [← hnn] at hn ⊢
  rw [← hnx] at hi ⊢
  have HWE : Hid (∀ wx, Below w.heap.size w wx → Calls Tryz.prog 7 #[.agg #[.int .i64 x.kind, .int .i64 x.pl, .int .i64 x.num, .string (strOf x.name), .slice A n c], .int .i64 20000, .int .i64 300] wx (WeighPost wx (weigh x 20000 300))) := Lib.hid fun wx hb => by
    have := (weigh_any h x.kind x.pl x.num 20000 300 x.name wx hb hb.size hnm (by omega) (by omega) (by omega) (by omega)).1
    rw [Ex.eta] at this
    exact this
  -- what follows once all is small
  have hlight : weigh x 20000 300 ≤ 20000 → nn ≤ 100 → nx ≤ 100 →
      (∀ wx, Below w.heap.size w wx → Calls Tryz.prog 8 #[.agg #[.int .i64 x.kind, .int .i64 x.pl, .int .i64 x.num, .string (strOf x.name), .slice A n c], .int .i64 301] wx fun r w' => ∃ A' n' c', r = .returned (.agg #[.int .i64 x.kind, .int .i64 x.pl, .int .i64 x.num, .string (strOf x.name), .slice A' n' c']) ∧ IsExs w' (· < w'.heap.size) x.args (.slice A' n' c') ∧ Below wx.heap.size wx w') ∧
      (∀ wx, Below w.heap.size w wx → Calls Tryz.prog 9 #[.slice An nn cn] wx fun r w' => ∃ A' n' c', r = .returned (.slice A' n' c') ∧ Lies KT w' (· < w'.heap.size) nms (.slice A' n' c') ∧ Below wx.heap.size wx w') ∧
      (∀ wx, Below w.heap.size w wx → Calls Tryz.prog 11 #[.slice Ai nx ci] wx fun r w' => ∃ A' n' c', r = .returned (.slice A' n' c') ∧ Lies KI w' (· < w'.heap.size) xs (.slice A' n' c') ∧ Below wx.heap.size wx w') ∧
      (∀ (wx : World) (A' : Option Addr) (n' c' : Nat) (nv iv : Value), IsExs wx (· < wx.heap.size) x.args (.slice A' n' c') → Lies KT wx (· < wx.heap.size) nms nv → Lies KI wx (· < wx.heap.size) xs iv → Calls Tryz.prog 10 #[.agg #[.int .i64 x.kind, .int .i64 x.pl, .int .i64 x.num, .string (strOf x.name), .slice A' n' c'], nv, iv] wx fun r w' => r = .returned (.int .i64 (valE nms xs x)) ∧ Below wx.heap.size wx w') ∧
      (∀ wx, Below w.heap.size w wx → Calls Tryz.prog 12 #[.agg #[.int .i64 x.kind, .int .i64 x.pl, .int .i64 x.num, .string (strOf x.name), .slice A n c], .slice An nn cn, .slice Ai nx ci] wx fun r w' => r = .returned (.int .i64 (valE nms xs x)) ∧ Below wx.heap.size wx w') ∧
      (∀ (wx : World) (A' : Option Addr) (n' c' : Nat), Below w.heap.size w wx → IsExs wx (· < wx.heap.size) x.args (.slice A' n' c') → Calls Tryz.prog 13 #[.agg #[.int .i64 x.kind, .int .i64 x.pl, .int .i64 x.num, .string (strOf x.name), .slice A' n' c'], .agg #[.int .i64 x.kind, .int .i64 x.pl, .int .i64 x.num, .string (strOf x.name), .slice A n c], .bool true, .int .i64 301] wx fun r w' => r = .returned (.bool true) ∧ Below wx.heap.size wx w') ∧
      (∀ (wx : World) (A' : Option Addr) (n' c' : Nat), Below w.heap.size w wx → Lies KT wx (· < wx.heap.size) nms (.slice A' n' c') → Calls Tryz.prog 14 #[.slice A' n' c', .slice An nn cn] wx fun r w' => r = .returned (.bool true) ∧ Below wx.heap.size wx w') := by
    intro hw hl1 hl2
    have hl := weigh_light x 20000 300 301 1000000 hw (by omega) (by omega) (by omega)
    have hargs := smallE_args hl.1
    have hcp : copyEs x.args 301 = x.args := by
      have h1 := (copyE_args x 301).2.2.2.2
      rw [hl.2] at h1
      exact h1.symm
    obtain ⟨hpt, hdt⟩ := light_parts x 20000 300 (by omega) hw
    have hpx : parts x = 1 + partsL x.args := by conv => lhs; rw [← Ex.eta x, parts]
    refine ⟨fun wx hb => ?_, fun wx hb => ?_, fun wx hb => ?_, fun wx A' n' c' nv iv he hn' hi' => ?_, fun wx hb => ?_, fun wx A' n' c' hb he => ?_, fun wx A' n' c' hb hx => ?_⟩
    · have h1 := copy_any h hargs.2.2 (by have := hargs.2.1; omega) x.kind x.pl x.num 301 (strOf x.name) wx hb hb.size (by omega) (by omega)
      rw [hcp] at h1
      refine h1.mono fun r w' => ?_
      rintro ⟨v', rfl, hi, hbs⟩
      obtain ⟨A', c', rfl⟩ := exs_form hi
      exact ⟨A', _, c', rfl, hi.keep (fun _ _ => rfl) (fun b hlt => hlt.2), hbs⟩
    · refine (copyTexts_any (hn.below hb) (by omega) (fun b hlt => Nat.lt_of_lt_of_le hlt hb.size)).mono fun r w' => ?_
      rintro ⟨v', rfl, ho, hbs⟩
      obtain ⟨A', c', e, -⟩ := ho.lies.form
      subst e
      exact ⟨A', _, c', rfl, ho.lies.keep (fun _ _ => rfl) (fun b hlt => hlt.2), hbs⟩
    · refine (copyInts_any (hi.below hb) (by omega) (fun b hlt => Nat.lt_of_lt_of_le hlt hb.size)).mono fun r w' => ?_
      rintro ⟨v', rfl, ho, hbs⟩
      obtain ⟨A', c', e, -⟩ := ho.lies.form
      subst e
      exact ⟨A', _, c', rfl, ho.lies.keep (fun _ _ => rfl) (fun b hlt => hlt.2), hbs⟩
    · exact hvalue_any hn' hi' he hnm (by omega) (by omega) wx (Below.refl _ _)
    · have := rvalue_any hn hi h x.kind x.pl x.num x.name wx hb hb.size hnm (by omega)
      rw [← valE_mk (p := x.pl), Ex.eta] at this
      exact this
    · exact sameexL_any he true _ _ ((h.bel hb).keep (fun _ _ => rfl) (fun b hlt => Nat.lt_of_lt_of_le hlt hb.size)) (likeEs_refl true _) x.kind x.pl x.pl x.num 301 (strOf x.name) wx (fun _ => rfl) (Below.refl _ _) (Nat.le_refl _) (by omega) (by omega)
    · refine (sameTexts_at hx (hn.below hb)).mono fun r w' => ?_
      rintro ⟨rfl, hd⟩
      exact ⟨rfl, hd.below⟩
  have HLT := Lib.hid hlight
  clear hlight h hn hi hnm hn_ hnn hnx hcn hMn hci hMi
  generalize x.kind = kk at HWE HLT ⊢
  generalize x.pl = pp at HWE HLT ⊢
  generalize x.num = mm at HWE HLT ⊢
  generalize strOf x.name = SS at HWE HLT ⊢
  generalize valE nms xs x = yy at HLT
  obtain ⟨X, hX⟩ : ∃ X : World, X = w.alloc (.cells #[.int .i64 kk, .int .i64 pp, .int .i64 mm, .string SS, .slice A n c] 24) := ⟨_, rfl⟩
  have hbx : Below w.heap.size w X := by rw [hX]; exact (Below.refl _ _).alloc (Nat.le_refl _) _
  have hrow : ExBlk X w.heap.size kk pp mm SS (.slice A n c) := by rw [hX]; exact ExBlk.new _ _ _ _ _ _
  have HAL : Hid (Calls Tryz.prog 6 #[] X fun e w' => e = .returned (.bool true) ∧ Below X.heap.size X w') := Lib.hid (alive_any X)
  have HX := Lib.hid hX
  have HBX := Lib.hid hbx
  have HXS : Hid (w.heap.size < X.heap.size) := Lib.hid (by rw [hX]; simp)
  have HROW := Lib.hid hrow
  clear hX hbx hrow
  have HCL : Hid (∀ wx, Below X.heap.size X wx → wx.cell? ⟨w.heap.size, 0, none⟩ = some (.int .i64 kk) ∧ wx.cell? ⟨w.heap.size, 1, none⟩ = some (.int .i64 pp) ∧ wx.cell? ⟨w.heap.size, 2, none⟩ = some (.int .i64 mm) ∧ wx.cell? ⟨w.heap.size, 3, none⟩ = some (.string SS) ∧ wx.cell? ⟨w.heap.size, 4, none⟩ = some (.slice A n c)) := Lib.hid fun wx hb => by
    have hk : ExBlk wx w.heap.size kk pp mm SS (.slice A n c) := HROW.out.below hb HXS.out
    exact ⟨hk.c0, hk.c1, hk.c2, hk.c3, hk.c4⟩
  go_enter Tryz.func3, Tryz.ntmps3
  go_wp2_with fail
  rw [← HX.out]
  refine HAL.out.mono ?_
  rintro e1 w1 ⟨rfl, hb1⟩
  have HB1 := Lib.hid hb1
  have HD1 := Lib.hid (HBX.out.trans (hb1.mono HBX.out.size))
  obtain ⟨q0, q1, q2, q3, q4⟩ := HCL.out w1 hb1
  clear hb1
  go_wp2_with fail
  refine (HWE.out w1 HD1.out).mono ?_
  rintro e2 w2 ⟨rfl, hb2⟩
  clear q0 q1 q2 q3 q4
  have HB2 := Lib.hid (HB1.out.trans (hb2.mono HB1.out.size))
  have HD2 := Lib.hid (HD1.out.trans (hb2.mono HD1.out.size))
  obtain ⟨q0, q1, q2, q3, q4⟩ := HCL.out w2 HB2.out
  clear hb2
  obtain ⟨G, hG⟩ : ∃ G, G = weigh x 20000 300 := ⟨_, rfl⟩
  rw [← hG]
  rw [← hG] at HLT
  clear hG HWE
  by_cases hw : 20000 < G
  · have hd : decide (20000 < G) = true := decide_eq_true hw
    go_wp2
    go_ret
    exact ⟨rfl, HD2.out⟩
  have hd : decide (20000 < G) = false := decide_eq_false hw
  by_cases ht : 100 < nn
  · have hd2 : decide ((100 : Int) < (nn : Int)) = true := decide_eq_true (by omega)
    have hd4 : (100 : Int) < (nn : Int) := by omega
    go_wp2
    go_ret
    exact ⟨rfl, HD2.out⟩
  have hd2 : decide ((100 : Int) < (nn : Int)) = false := decide_eq_false (by omega)
  have hd4 : ¬ (100 : Int) < (nn : Int) := by omega
  by_cases ht2 : 100 < nx
  · have hd3 : decide ((100 : Int) < (nx : Int)) = true := decide_eq_true (by omega)
    have hd5 : (100 : Int) < (nx : Int) := by omega
    go_wp2
    go_ret
    exact ⟨rfl, HD2.out⟩
  have hd3 : decide ((100 : Int) < (nx : Int)) = false := decide_eq_false (by omega)
  have hd5 : ¬ (100 : Int) < (nx : Int) := by omega
  obtain ⟨k1, k2, k3, k4, k5, k6, k7⟩ := HLT.out (by omega) (by omega) (by omega)
  have HCE := Lib.hid k1
  have HCT := Lib.hid k2
  have HCI := Lib.hid k3
  have HV := Lib.hid k4
  have HRV := Lib.hid k5
  have HSE := Lib.hid k6
  have HST := Lib.hid k7
  clear k1 k2 k3 k4 k5 k6 k7 HLT hw ht ht2
  go_wp2_with fail
  refine (HCE.out w2 HD2.out).mono ?_
  rintro e3 w3 ⟨A', n', c', rfl, hi3, hb3⟩
  clear q0 q1 q2 q3 q4
  have HB3 := Lib.hid (HB2.out.trans (hb3.mono HB2.out.size))
  have HD3 := Lib.hid (HD2.out.trans (hb3.mono HD2.out.size))
  have HI3 := Lib.hid hi3
  clear hb3 hi3
  go_wp2_with fail
  obtain ⟨Y, hY⟩ : ∃ Y : World, Y = w3.alloc (.cells #[.int .i64 kk, .int .i64 pp, .int .i64 mm, .string SS, .slice A' n' c'] 24) := ⟨_, rfl⟩
  have hby : Below w3.heap.size w3 Y := by rw [hY]; exact (Below.refl _ _).alloc (Nat.le_refl _) _
  have hyrow : ExBlk Y w3.heap.size kk pp mm SS (.slice A' n' c') := by rw [hY]; exact ExBlk.new _ _ _ _ _ _
  have hys : w3.heap.size < Y.heap.size := by rw [hY]; simp
  rw [← hY]
  have HYR := Lib.hid hyrow
  have HYS := Lib.hid hys
  have HBY := Lib.hid (HB3.out.trans (hby.mono HB3.out.size))
  have HDY := Lib.hid (HD3.out.trans (hby.mono HD3.out.size))
  have HIY : Hid (IsExs Y (· < Y.heap.size) x.args (.slice A' n' c')) := Lib.hid ((HI3.out.bel hby).keep (fun _ _ => rfl) (fun b hlt => Nat.lt_of_lt_of_le hlt hby.size))
  clear hY hby hyrow hys HI3
  obtain ⟨T, hT⟩ : ∃ T, T = w3.heap.size := ⟨_, rfl⟩
  rw [← hT] at HYR HYS ⊢
  clear hT
  go_wp2_with fail
  refine (HCT.out Y HDY.out).mono ?_
  rintro e4 w4 ⟨An', nn', cn', rfl, ht4, hb4⟩
  have HC4 := Lib.hid hb4
  have HB4 := Lib.hid (HBY.out.trans (hb4.mono HBY.out.size))
  have HD4 := Lib.hid (HDY.out.trans (hb4.mono HDY.out.size))
  have HT4 := Lib.hid ht4
  clear hb4 ht4
  go_wp2_with fail
  have HKS : Hid (∀ wx, Below w4.heap.size w4 wx → wx.cell? ⟨w.heap.size, 0, none⟩ = some (.int .i64 kk) ∧ wx.cell? ⟨w.heap.size, 1, none⟩ = some (.int .i64 pp) ∧ wx.cell? ⟨w.heap.size, 2, none⟩ = some (.int .i64 mm) ∧ wx.cell? ⟨w.heap.size, 3, none⟩ = some (.string SS) ∧ wx.cell? ⟨w.heap.size, 4, none⟩ = some (.slice A n c) ∧ wx.cell? ⟨T, 0, none⟩ = some (.int .i64 kk) ∧ wx.cell? ⟨T, 1, none⟩ = some (.int .i64 pp) ∧ wx.cell? ⟨T, 2, none⟩ = some (.int .i64 mm) ∧ wx.cell? ⟨T, 3, none⟩ = some (.string SS) ∧ wx.cell? ⟨T, 4, none⟩ = some (.slice A' n' c')) := Lib.hid fun wx hb => by
    obtain ⟨a0, a1, a2, a3, a4⟩ := HCL.out wx (HB4.out.trans (hb.mono HB4.out.size))
    have hk : ExBlk wx T kk pp mm SS (.slice A' n' c') := HYR.out.below (HC4.out.trans (hb.mono HC4.out.size)) HYS.out
    exact ⟨a0, a1, a2, a3, a4, hk.c0, hk.c1, hk.c2, hk.c3, hk.c4⟩
  have HDD : Hid (Below w4.heap.size w4 w4.drew) := Lib.hid (Below.refl _ _).drew
  refine wp_region_held_drew (S := fun wx => wx.cell? ⟨w.heap.size, 0, none⟩ = some (.int .i64 kk) ∧ wx.cell? ⟨w.heap.size, 1, none⟩ = some (.int .i64 pp) ∧ wx.cell? ⟨w.heap.size, 2, none⟩ = some (.int .i64 mm) ∧ wx.cell? ⟨w.heap.size, 3, none⟩ = some (.string SS) ∧ wx.cell? ⟨w.heap.size, 4, none⟩ = some (.slice A n c) ∧ wx.cell? ⟨T, 0, none⟩ = some (.int .i64 kk) ∧ wx.cell? ⟨T, 1, none⟩ = some (.int .i64 pp) ∧ wx.cell? ⟨T, 2, none⟩ = some (.int .i64 mm) ∧ wx.cell? ⟨T, 3, none⟩ = some (.string SS) ∧ wx.cell? ⟨T, 4, none⟩ = some (.slice A' n' c')) (by kernel_rfl) (HKS.out _ HDD.out) (fun hHeld => ?_)
  refine take_at (i := 0) (oi := _) (v := .agg #[.int .i64 kk, .int .i64 pp, .int .i64 mm, .string SS, .slice A' n' c']) rfl rfl (by kernel_rfl) (by kernel_rfl) (by kernel_rfl) (fun _ _ _ h => h) (Or.inl ⟨by rfl, fun W hS => ?_⟩) hHeld ?_
  · obtain ⟨s0_, s1_, s2_, s3_, s4_, s5_, s6_, s7_, s8_, s9_⟩ := hS; go_simp
  simp only [List.setIfInBounds_toArray, List.set_cons_zero, List.set_cons_succ]
  refine take_at (i := 1) (oi := _) (v := .slice An' nn' cn') rfl rfl (by kernel_rfl) (by kernel_rfl) (by kernel_rfl) (fun _ _ _ h => h) (Or.inl ⟨by rfl, fun W hS => ?_⟩) hHeld ?_
  · obtain ⟨s0_, s1_, s2_, s3_, s4_, s5_, s6_, s7_, s8_, s9_⟩ := hS; go_simp
  simp only [List.setIfInBounds_toArray, List.set_cons_zero, List.set_cons_succ]
  refine take_at (i := 2) (oi := _) (v := .slice Ai nx ci) rfl rfl (by kernel_rfl) (by kernel_rfl) (by kernel_rfl) (fun _ _ _ h => h) (Or.inl ⟨by rfl, fun W hS => ?_⟩) hHeld ?_
  · obtain ⟨s0_, s1_, s2_, s3_, s4_, s5_, s6_, s7_, s8_, s9_⟩ := hS; go_simp
  simp only [List.setIfInBounds_toArray, List.set_cons_zero, List.set_cons_succ]
  refine take_at (i := 5) (oi := _) (v := .agg #[.int .i64 kk, .int .i64 pp, .int .i64 mm, .string SS, .slice A n c]) rfl rfl (by kernel_rfl) (by kernel_rfl) (by kernel_rfl) (fun _ _ _ h => h) (Or.inl ⟨by rfl, fun W hS => ?_⟩) hHeld ?_
  · obtain ⟨s0_, s1_, s2_, s3_, s4_, s5_, s6_, s7_, s8_, s9_⟩ := hS; go_simp
  simp only [List.setIfInBounds_toArray, List.set_cons_zero, List.set_cons_succ]
  refine take_at (i := 6) (oi := _) (v := .slice An nn cn) rfl rfl (by kernel_rfl) (by kernel_rfl) (by kernel_rfl) (fun _ _ _ h => h) (Or.inl ⟨by rfl, fun W hS => ?_⟩) hHeld ?_
  · obtain ⟨s0_, s1_, s2_, s3_, s4_, s5_, s6_, s7_, s8_, s9_⟩ := hS; go_simp
  simp only [List.setIfInBounds_toArray, List.set_cons_zero, List.set_cons_succ]
  refine take_at (i := 7) (oi := _) (v := .slice Ai nx ci) rfl rfl (by kernel_rfl) (by kernel_rfl) (by kernel_rfl) (fun _ _ _ h => h) (Or.inl ⟨by rfl, fun W hS => ?_⟩) hHeld ?_
  · obtain ⟨s0_, s1_, s2_, s3_, s4_, s5_, s6_, s7_, s8_, s9_⟩ := hS; go_simp
  simp only [List.setIfInBounds_toArray, List.set_cons_zero, List.set_cons_succ]
  refine wpAnyH_ready (rs := [3]) (by kernel_rfl) (by simp) ?_
  refine AllReadyH.cons rfl (fun K hK => ?_) AllReadyH.nil
  go_simp
  refine (HCI.out _ (HD4.out.trans (HDD.out.mono HD4.out.size))).mono ?_
  rintro e wa ⟨Ai', nx', ci', rfl, hti, hbq⟩
  have HEa : Hid (Below w4.heap.size w4 wa) := Lib.hid (HDD.out.trans (hbq.mono HDD.out.size))
  have HTI := Lib.hid hti
  clear hti
  clear hbq hHeld
  go_wp2_with fail
  refine hK.out _ _ (HKS.out _ HEa.out) (fun hHeld => ?_)
  clear hK K
  try simp only [Act.put, List.setIfInBounds_toArray, List.set_cons_zero, List.set_cons_succ]
  refine wpAnyH_ready (rs := [4]) (by kernel_rfl) (by simp) ?_
  refine AllReadyH.cons rfl (fun K hK => ?_) AllReadyH.nil
  go_simp
  refine (HV.out _ A' n' c' _ _ ((HIY.out.bel (HC4.out.trans (HEa.out.mono HC4.out.size))).keep (fun _ _ => rfl) (fun b hlt => Nat.lt_of_lt_of_le hlt (Nat.le_trans HC4.out.size HEa.out.size))) ((HT4.out.below HEa.out).keep (fun _ _ => rfl) (fun b hlt => Nat.lt_of_lt_of_le hlt HEa.out.size)) HTI.out).mono ?_
  rintro e wb ⟨rfl, hbq⟩
  have HEb : Hid (Below w4.heap.size w4 wb) := Lib.hid (HEa.out.trans (hbq.mono HEa.out.size))
  clear hbq hHeld
  go_wp2_with fail
  refine hK.out _ _ (HKS.out _ HEb.out) (fun hHeld => ?_)
  clear hK K
  try simp only [Act.put, List.setIfInBounds_toArray, List.set_cons_zero, List.set_cons_succ]
  refine wpAnyH_ready (rs := [8]) (by kernel_rfl) (by simp) ?_
  refine AllReadyH.cons rfl (fun K hK => ?_) AllReadyH.nil
  go_simp
  refine (HRV.out _ (HD4.out.trans (HEb.out.mono HD4.out.size))).mono ?_
  rintro e wc ⟨rfl, hbq⟩
  have HEc : Hid (Below w4.heap.size w4 wc) := Lib.hid (HEb.out.trans (hbq.mono HEb.out.size))
  clear hbq hHeld
  go_wp2_with fail
  refine hK.out _ _ (HKS.out _ HEc.out) (fun hHeld => ?_)
  clear hK K
  try simp only [Act.put, List.setIfInBounds_toArray, List.set_cons_zero, List.set_cons_succ]
  refine take_at (i := 9) (oi := _) (v := .bool true) rfl rfl (by kernel_rfl) (by kernel_rfl) (by kernel_rfl) (fun _ _ _ h => h) (Or.inl ⟨by rfl, fun W hS => ?_⟩) hHeld ?_
  · obtain ⟨s0_, s1_, s2_, s3_, s4_, s5_, s6_, s7_, s8_, s9_⟩ := hS; go_simp
  simp only [List.setIfInBounds_toArray, List.set_cons_zero, List.set_cons_succ]
  refine take_at (i := 10) (oi := _) (v := .bool true) rfl rfl (by kernel_rfl) (by kernel_rfl) (by kernel_rfl) (fun _ _ _ h => h) (Or.inl ⟨by rfl, fun W hS => ?_⟩) hHeld ?_
  · obtain ⟨s0_, s1_, s2_, s3_, s4_, s5_, s6_, s7_, s8_, s9_⟩ := hS; go_simp
  simp only [List.setIfInBounds_toArray, List.set_cons_zero, List.set_cons_succ]
  refine take_at (i := 11) (oi := _) (v := .agg #[.int .i64 kk, .int .i64 pp, .int .i64 mm, .string SS, .slice A' n' c']) rfl rfl (by kernel_rfl) (by kernel_rfl) (by kernel_rfl) (fun _ _ _ h => h) (Or.inl ⟨by rfl, fun W hS => ?_⟩) hHeld ?_
  · obtain ⟨s0_, s1_, s2_, s3_, s4_, s5_, s6_, s7_, s8_, s9_⟩ := hS; go_simp
  simp only [List.setIfInBounds_toArray, List.set_cons_zero, List.set_cons_succ]
  refine take_at (i := 12) (oi := _) (v := .agg #[.int .i64 kk, .int .i64 pp, .int .i64 mm, .string SS, .slice A n c]) rfl rfl (by kernel_rfl) (by kernel_rfl) (by kernel_rfl) (fun _ _ _ h => h) (Or.inl ⟨by rfl, fun W hS => ?_⟩) hHeld ?_
  · obtain ⟨s0_, s1_, s2_, s3_, s4_, s5_, s6_, s7_, s8_, s9_⟩ := hS; go_simp
  simp only [List.setIfInBounds_toArray, List.set_cons_zero, List.set_cons_succ]
  refine wpAnyH_ready (rs := [13]) (by kernel_rfl) (by simp) ?_
  refine AllReadyH.cons rfl (fun K hK => ?_) AllReadyH.nil
  go_simp
  refine (HSE.out _ A' n' c' (HD4.out.trans (HEc.out.mono HD4.out.size)) ((HIY.out.bel (HC4.out.trans (HEc.out.mono HC4.out.size))).keep (fun _ _ => rfl) (fun b hlt => Nat.lt_of_lt_of_le hlt (Nat.le_trans HC4.out.size HEc.out.size)))).mono ?_
  rintro e wd ⟨rfl, hbq⟩
  have HEd : Hid (Below w4.heap.size w4 wd) := Lib.hid (HEc.out.trans (hbq.mono HEc.out.size))
  clear hbq hHeld
  go_wp2_with fail
  refine hK.out _ _ (HKS.out _ HEd.out) (fun hHeld => ?_)
  clear hK K
  try simp only [Act.put, List.setIfInBounds_toArray, List.set_cons_zero, List.set_cons_succ]
  refine take_at (i := 14) (oi := _) (v := .bool true) rfl rfl (by kernel_rfl) (by kernel_rfl) (by kernel_rfl) (fun _ _ _ h => h) (Or.inl ⟨by rfl, fun W hS => ?_⟩) hHeld ?_
  · obtain ⟨s0_, s1_, s2_, s3_, s4_, s5_, s6_, s7_, s8_, s9_⟩ := hS; go_simp
  simp only [List.setIfInBounds_toArray, List.set_cons_zero, List.set_cons_succ]
  refine take_at (i := 15) (oi := _) (v := .bool true) rfl rfl (by kernel_rfl) (by kernel_rfl) (by kernel_rfl) (fun _ _ _ h => h) (Or.inl ⟨by rfl, fun W hS => ?_⟩) hHeld ?_
  · obtain ⟨s0_, s1_, s2_, s3_, s4_, s5_, s6_, s7_, s8_, s9_⟩ := hS; go_simp
  simp only [List.setIfInBounds_toArray, List.set_cons_zero, List.set_cons_succ]
  refine take_at (i := 16) (oi := _) (v := .slice An' nn' cn') rfl rfl (by kernel_rfl) (by kernel_rfl) (by kernel_rfl) (fun _ _ _ h => h) (Or.inl ⟨by rfl, fun W hS => ?_⟩) hHeld ?_
  · obtain ⟨s0_, s1_, s2_, s3_, s4_, s5_, s6_, s7_, s8_, s9_⟩ := hS; go_simp
  simp only [List.setIfInBounds_toArray, List.set_cons_zero, List.set_cons_succ]
  refine take_at (i := 17) (oi := _) (v := .slice An nn cn) rfl rfl (by kernel_rfl) (by kernel_rfl) (by kernel_rfl) (fun _ _ _ h => h) (Or.inl ⟨by rfl, fun W hS => ?_⟩) hHeld ?_
  · obtain ⟨s0_, s1_, s2_, s3_, s4_, s5_, s6_, s7_, s8_, s9_⟩ := hS; go_simp
  simp only [List.setIfInBounds_toArray, List.set_cons_zero, List.set_cons_succ]
  refine wpAnyH_ready (rs := [18]) (by kernel_rfl) (by simp) ?_
  refine AllReadyH.cons rfl (fun K hK => ?_) AllReadyH.nil
  go_simp
  refine (HST.out _ An' nn' cn' (HD4.out.trans (HEd.out.mono HD4.out.size)) ((HT4.out.below HEd.out).keep (fun _ _ => rfl) (fun b hlt => Nat.lt_of_lt_of_le hlt HEd.out.size))).mono ?_
  rintro e we ⟨rfl, hbq⟩
  have HEe : Hid (Below w4.heap.size w4 we) := Lib.hid (HEd.out.trans (hbq.mono HEd.out.size))
  clear hbq hHeld
  go_wp2_with fail
  refine hK.out _ _ (HKS.out _ HEe.out) (fun hHeld => ?_)
  clear hK K
  try simp only [Act.put, List.setIfInBounds_toArray, List.set_cons_zero, List.set_cons_succ]
  refine take_at (i := 19) (oi := _) (v := .bool true) rfl rfl (by kernel_rfl) (by kernel_rfl) (by kernel_rfl) (fun _ _ _ h => h) (Or.inl ⟨by rfl, fun W hS => ?_⟩) hHeld ?_
  · obtain ⟨s0_, s1_, s2_, s3_, s4_, s5_, s6_, s7_, s8_, s9_⟩ := hS; go_simp
  simp only [List.setIfInBounds_toArray, List.set_cons_zero, List.set_cons_succ]
  refine take_at (i := 20) (oi := _) (v := .bool true) rfl rfl (by kernel_rfl) (by kernel_rfl) (by kernel_rfl) (fun _ _ _ h => h) (Or.inl ⟨by rfl, fun W hS => ?_⟩) hHeld ?_
  · obtain ⟨s0_, s1_, s2_, s3_, s4_, s5_, s6_, s7_, s8_, s9_⟩ := hS; go_simp
  simp only [List.setIfInBounds_toArray, List.set_cons_zero, List.set_cons_succ]
  refine wpAnyH_done (by kernel_rfl) ?_ _
  go_wp2
  go_ret
  exact ⟨rfl, HD4.out.trans (HEe.out.mono HD4.out.size)⟩

end Go.Proofs.YtadkimnpeachpaaGreatDoor
