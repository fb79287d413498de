/- Fh -/
import Derived.Test.YtbckeljbpknbdaaGreatDoorVa7
set_option linter.unusedVariables false
set_option linter.unusedSimpArgs false
namespace Go.Proofs.YtbckeljbpknbdaaGreatDoor
open Go.RowKit
def App2 (w Z : World) (R lo : Nat) (Fr : World → Value → List Tok → Prop) (xs : List Ex) (x : Rd Ex) (e : Ending) (w' : World) : Prop := Xgv w R lo Fr xs x e w' ∧ Z.heap.size ≤ w'.heap.size
set_option maxRecDepth 100000 in
set_option maxHeartbeats 8000000 in
theorem eargs {w Z0 : World} {B R L lo G0 G1 C n : Nat} {D : Int} {Fr : World → Value → List Tok → Prop} {v : Value} {xs : List Ex} {us0 : List Tok} (hO : FrOk w B R L lo G0 G1 ⟨C, 0, none⟩ D Fr) (h : Fr Z0 v us0) (hown : Xaf Z0 (fun b => lo ≤ b) lo v xs) (hxs : xs.length ≤ 5000) (hD0 : 0 ≤ D) (hD1 : D ≤ 30)
  (hE : ∀ (w : World) (us : List Tok), RdAt w B R L us → B ≤ w.heap.size → Calls Tryz.prog 110 #[.pointer (some ⟨R, 0, none⟩), .int .i64 D] w (Xaj (ExB w.heap.size) w B R L (Xah L n us))) :
  Calls Tryz.prog 127 #[.int .i64 (xs.length : Nat), .pointer (some ⟨G0, 0, none⟩), .pointer (some ⟨C, 0, none⟩), .pointer (some ⟨G1, 0, none⟩)] Z0 (App2 w Z0 R lo Fr xs (argM L (Xah L n) xs.length us0)) := by
 obtain ⟨A0, c0, hv⟩ := hown.slice
 subst hv
 obtain ⟨k, hk⟩ : ∃ k, k = xs.length := ⟨_, rfl⟩
 rw [← hk] at h hxs hown ⊢
 have HF0 := lh h
 have HO := lh hO
 have HOW0 := lh hown
 have HE := lh hE
 have HK := lh hk
 have HRL : Hid (R < lo) := lh (by have := (hO.rd h).lt; have := hO.lB; omega)
 have HSZ0 : ∀ Z v us, Fr Z v us → B ≤ Z.heap.size := fun _ _ _ h => by have := HO.out.size h; have := HO.out.lB; omega
 have HSZ0 := lh HSZ0
 have p0 := hO.c0 h
 have HM0 := lh (argM.eq_1 L (Xah L n) k us0)
 have HWR : Hid (IntKind.i64.wrap (D + 1) = D + 1) := lh (IntWalk.i64_in _ ⟨by omega, by omega⟩)
 clear h hO hown hE hk
 go_enter Tryz.func127, Tryz.ntmps127
 go_wp2_with fail
 refine (Xpk (HO.out.rd HF0.out) (HSZ0.out _ _ _ HF0.out) k).mono ?_
 rintro e w1 hp
 cases hx : Xeq L k us0 with
 | bad p c =>
   have HM1 := lh (HM0.out.trans (Xam hx))
   rw [hx] at hp
   obtain ⟨rfl, hc⟩ := hp
   have HC1 := lh ((HO.out.chg HF0.out).up hc)
   have HS1 := lh hc.size
   clear hx hc
   unfold Xag
   go_wp2
   rw [HM1.out]
   exact ⟨rfl, ⟨rfl, HC1.out⟩, HS1.out⟩
 | ok a1 u1 =>
   have HM1 := lh (HM0.out.trans (Xap hx))
   rw [hx] at hp
   obtain ⟨⟨v1, rfl, hv1⟩, hr, hc⟩ := hp
   have HF1 := lh (HO.out.step HF0.out hr hc)
   have HS1 := lh hc.size
   have HOW1 := lh (Xaq (fun b hb e => by have := HRL.out; omega) HRL.out HOW0.out hc)
   clear hx hr hc hv1 p0
   have p0 := HO.out.c0 HF1.out
   go_wp2_with fail
   refine wp_region_held_drew (S := fun W => W.cell? ⟨G0, 0, none⟩ = some (.pointer (some ⟨R, 0, none⟩))) (by kernel_rfl) p0 (fun hHeld => ?_)
   refine wpAnyH_take (i := 0) (oi := _) (v := .pointer (some ⟨R, 0, none⟩)) rfl (by kernel_rfl) (by kernel_rfl) (by kernel_rfl) (fun _ _ _ h => h) (Or.inl ⟨by rfl, fun W hS => ?_⟩) hHeld ?_
   · go_simp
   simp only [Act.put]
   refine wpAnyH_take (i := 1) (oi := _) (v := .pointer (some ⟨R, 0, none⟩)) rfl (by kernel_rfl) (by kernel_rfl) (by kernel_rfl) (fun _ _ _ h => h) (Or.inl ⟨by rfl, fun W hS => ?_⟩) hHeld ?_
   · go_simp
   simp only [Act.put]
   refine wpAnyH_take (i := 3) (oi := _) (v := .int .i64 k) rfl (by kernel_rfl) (by kernel_rfl) (by kernel_rfl) (fun _ _ _ h => h) (Or.inl ⟨by rfl, fun W hS => ?_⟩) hHeld ?_
   · go_simp
   simp only [Act.put]
   refine wpAnyH_ready (rs := [2]) (by kernel_rfl) (by simp) ?_
   refine AllReadyH.cons rfl (fun K hK => ?_) AllReadyH.nil
   go_simp
   refine (Xii (HO.out.rd HF1.out).drew (by have := HSZ0.out _ _ _ HF1.out; exact this)).mono ?_
   rintro e w2 ⟨rfl, hb⟩
   have hc : Chg (fun b => b = R) w1 w2 := Chg.of_below ⟨hb.os, hb.tape, hb.output, hb.size, hb.block⟩
   have HF2 := lh (HO.out.step HF1.out ((HO.out.rd HF1.out).drew.below' (by have := HSZ0.out _ _ _ HF1.out; exact this) hb) hc)
   have HS2 := lh (Nat.le_trans HS1.out hc.size)
   have HOW2 := lh (Xaq (fun b hb e => by have := HRL.out; omega) HRL.out HOW1.out hc)
   clear hb hc p0 hHeld
   have p0 := HO.out.c0 HF2.out
   go_wp2_with fail
   refine hK.out _ _ p0 (fun hHeld => ?_)
   clear hK K
   refine wpAnyH_ready (rs := [4]) (by kernel_rfl) (by simp) ?_
   refine AllReadyH.cons rfl (fun K hK => ?_) AllReadyH.nil
   go_simp
   refine (Xff (HO.out.rd HF2.out) (opensB u1) k 4).mono ?_
   rintro e Z hp
   cases hx : Xcc L (opensB u1) k 4 u1 with
   | bad p c =>
     have HM2 := lh (HM1.out.trans (Xam hx))
     rw [hx] at hp
     obtain ⟨rfl, hc⟩ := hp
     have HC2 := lh ((HO.out.chg HF2.out).up hc)
     have HS3 := lh (Nat.le_trans HS2.out hc.size)
     clear hx hc
     unfold Xag
     go_wp2
     rw [HM2.out]
     exact ⟨rfl, ⟨rfl, HC2.out⟩, HS3.out⟩
   | ok a2 us =>
     have HM2 := lh (HM1.out.trans (Xap hx))
     rw [hx] at hp
     obtain ⟨⟨v2, rfl, hv2⟩, hr, hc⟩ := hp
     have HH := lh (HO.out.step HF2.out hr hc)
     have HS0 := lh (Nat.le_trans HS2.out hc.size)
     have HOWN := lh (Xaq (fun b hb e => by have := HRL.out; omega) HRL.out HOW2.out hc)
     have HR3 := lh hr
     clear hx hr hc hv2 p0 hHeld
     have p0 := HO.out.c0 HH.out
     go_wp2_with fail
     refine hK.out _ _ p0 (fun hHeld => ?_)
     clear hK K
     refine wpAnyH_done (by kernel_rfl) ?_ _
     go_wp2_with fail
     have HSL := lh (HO.out.size HH.out)
     have HSZ := lh (HSZ0.out _ _ _ HH.out)
     clear p0 hHeld HF0 HF1 HF2 HOW0 HOW1 HOW2 HM0 HM1
     have y0 := HO.out.c0 HH.out
     have y1 := HO.out.c1 HH.out
     have y4 := HO.out.cv HH.out
     cases hx : Xah L n us with
     | bad p9 c9 =>
       have HM9 := lh (HM2.out.trans hx)
       have HXE := lh hx
       rw [HM9.out]
       clear hx
       refine wp_region_held_drew (S := fun W => W.cell? ⟨G0, 0, none⟩ = some (.pointer (some ⟨R, 0, none⟩)) ∧ W.cell? ⟨G1, 0, none⟩ = some (.int .i64 D)) (by kernel_rfl) ⟨y0, y1⟩ (fun hHeld => ?_)
       have p0 : Z.drew.cell? ⟨G0, 0, none⟩ = some (.pointer (some ⟨R, 0, none⟩)) := y0
       have p1 : Z.drew.cell? ⟨G1, 0, none⟩ = some (.int .i64 D) := y1
       have q4 : Z.drew.cell? ⟨C, 0, none⟩ = some (.slice A0 k c0) := y4
       refine wpAnyH_take (i := 1) (oi := _) (v := .pointer (some ⟨R, 0, none⟩)) rfl (by kernel_rfl) (by kernel_rfl) (by kernel_rfl) (fun _ _ _ h => h) (Or.inl ⟨by rfl, fun W hS => ?_⟩) hHeld ?_
       · obtain ⟨s0, s1⟩ := hS
         go_simp
         try rw [HWR.out]
       simp only [Act.put]
       refine wpAnyH_take (i := 2) (oi := _) (v := .int .i64 D) rfl (by kernel_rfl) (by kernel_rfl) (by kernel_rfl) (fun _ _ _ h => h) (Or.inl ⟨by rfl, fun W hS => ?_⟩) hHeld ?_
       · obtain ⟨s0, s1⟩ := hS
         go_simp
         try rw [HWR.out]
       simp only [Act.put]
       have tld_ : Nat := 0
       have tcall_ : Nat := 0
       have tmk_ : Nat := 0
       repeat' (first
        | (have q_ := tld_
           clear q_
           have q_ := tcall_
           clear q_
           have q_ := tmk_
           clear q_
           refine wpAnyH_ready (rs := [0, 3, 5]) (by kernel_rfl) (by simp) (AllReadyH.cons rfl (fun K hKld => ?_) (AllReadyH.cons rfl (fun K hKcall => ?_) (AllReadyH.cons rfl (fun K hKmk => ?_) AllReadyH.nil))))
        | (have q_ := tcall_
           clear q_
           have q_ := tmk_
           clear q_
           refine wpAnyH_ready (rs := [3, 5]) (by kernel_rfl) (by simp) (AllReadyH.cons rfl (fun K hKcall => ?_) (AllReadyH.cons rfl (fun K hKmk => ?_) AllReadyH.nil)))
        | (have q_ := tld_
           clear q_
           have q_ := tcall_
           clear q_
           refine wpAnyH_ready (rs := [0, 3]) (by kernel_rfl) (by simp) (AllReadyH.cons rfl (fun K hKld => ?_) (AllReadyH.cons rfl (fun K hKcall => ?_) AllReadyH.nil)))
        | (have q_ := tcall_
           clear q_
           refine wpAnyH_ready (rs := [3]) (by kernel_rfl) (by simp) (AllReadyH.cons rfl (fun K hKcall => ?_) AllReadyH.nil))
        | (have hK := hKcall
           clear hKcall
           clear tcall_
           have q_ := tmk_
           clear q_
           go_simp
           refine (HE.out Z.drew us (HO.out.rd HH.out).drew HSZ.out).mono ?_
           rintro e w2 hp
           rw [HXE.out] at hp
           obtain ⟨rfl, hc2⟩ := hp
           have HC2 := lh ((HO.out.chg HH.out).up (show Chg (fun b => b = R) Z w2 from ⟨hc2.os, hc2.tape, hc2.output, hc2.size, hc2.block⟩))
           have HSB : Hid (Z.heap.size ≤ w2.heap.size) := lh (show Chg (fun b => b = R) Z w2 from ⟨hc2.os, hc2.tape, hc2.output, hc2.size, hc2.block⟩).size
           clear hc2
           unfold Xag
           go_wp2
           exact ⟨rfl, ⟨rfl, HC2.out⟩, (Nat.le_trans HS0.out HSB.out)⟩)
        | (have hK := hKmk
           clear hKmk
           clear tmk_
           have q_ := tcall_
           clear q_
           go_simp
           have p0 := Xaa (o := (.cells #[.int .i64 0, .int .i64 0, .int .i64 0, .string ⟨#[]⟩, .slice none 0 0] 152)) p0
           have p1 := Xaa (o := (.cells #[.int .i64 0, .int .i64 0, .int .i64 0, .string ⟨#[]⟩, .slice none 0 0] 152)) p1
           have q4 := Xaa (o := (.cells #[.int .i64 0, .int .i64 0, .int .i64 0, .string ⟨#[]⟩, .slice none 0 0] 152)) q4
           have x4 := Xaa (o := (.cells #[.int .i64 0, .int .i64 0, .int .i64 0, .string ⟨#[]⟩, .slice none 0 0] 152)) y4
           refine hK.out _ _ ⟨p0, p1⟩ (fun hHeld => ?_)
           clear hK K)
        | (have hK := hKld
           clear hKld
           clear tld_
           go_simp
           refine hK.out _ _ ⟨p0, p1⟩ (fun hHeld => ?_)
           clear hK K
           refine wpAnyH_take (i := 4) (oi := _) (v := .int .i64 k) rfl (by kernel_rfl) (by kernel_rfl) (by kernel_rfl) (fun _ _ _ h => h) (Or.inl ⟨by rfl, fun W hS => ?_⟩) hHeld ?_
           · obtain ⟨s0, s1⟩ := hS
             go_simp
             try rw [HWR.out]
           simp only [Act.put])
        | (have hK := hKcall
           clear hKcall
           clear tcall_
           go_simp
           refine (HE.out (Z.drew.alloc (.cells #[.int .i64 0, .int .i64 0, .int .i64 0, .string ⟨#[]⟩, .slice none 0 0] 152)) us ((HO.out.rd HH.out).drew.alloc HSZ.out _) (by have := HSZ.out; simp; omega)).mono ?_
           rintro e w2 hp
           rw [HXE.out] at hp
           obtain ⟨rfl, hc2⟩ := hp
           have HC2 := lh ((HO.out.chg HH.out).up (show Chg (fun b => b = R) Z w2 from (Chg.up (b := Z.alloc (.cells #[.int .i64 0, .int .i64 0, .int .i64 0, .string ⟨#[]⟩, .slice none 0 0] 152)) (Chg.of_below (Xae _ _)) ⟨hc2.os, hc2.tape, hc2.output, hc2.size, hc2.block⟩)))
           have HSB : Hid (Z.heap.size ≤ w2.heap.size) := lh (show Chg (fun b => b = R) Z w2 from (Chg.up (b := Z.alloc (.cells #[.int .i64 0, .int .i64 0, .int .i64 0, .string ⟨#[]⟩, .slice none 0 0] 152)) (Chg.of_below (Xae _ _)) ⟨hc2.os, hc2.tape, hc2.output, hc2.size, hc2.block⟩)).size
           clear hc2
           unfold Xag
           go_wp2
           exact ⟨rfl, ⟨rfl, HC2.out⟩, (Nat.le_trans HS0.out HSB.out)⟩))
     | ok a r =>
       have HM9 := lh (HM2.out.trans hx)
       have HXE := lh hx
       rw [HM9.out]
       clear hx
       refine wp_region_held_drew (S := fun W => W.cell? ⟨G0, 0, none⟩ = some (.pointer (some ⟨R, 0, none⟩)) ∧ W.cell? ⟨G1, 0, none⟩ = some (.int .i64 D)) (by kernel_rfl) ⟨y0, y1⟩ (fun hHeld => ?_)
       have p0 : Z.drew.cell? ⟨G0, 0, none⟩ = some (.pointer (some ⟨R, 0, none⟩)) := y0
       have p1 : Z.drew.cell? ⟨G1, 0, none⟩ = some (.int .i64 D) := y1
       have q4 : Z.drew.cell? ⟨C, 0, none⟩ = some (.slice A0 k c0) := y4
       refine wpAnyH_take (i := 1) (oi := _) (v := .pointer (some ⟨R, 0, none⟩)) rfl (by kernel_rfl) (by kernel_rfl) (by kernel_rfl) (fun _ _ _ h => h) (Or.inl ⟨by rfl, fun W hS => ?_⟩) hHeld ?_
       · obtain ⟨s0, s1⟩ := hS
         go_simp
         try rw [HWR.out]
       simp only [Act.put]
       refine wpAnyH_take (i := 2) (oi := _) (v := .int .i64 D) rfl (by kernel_rfl) (by kernel_rfl) (by kernel_rfl) (fun _ _ _ h => h) (Or.inl ⟨by rfl, fun W hS => ?_⟩) hHeld ?_
       · obtain ⟨s0, s1⟩ := hS
         go_simp
         try rw [HWR.out]
       simp only [Act.put]
       have tld_ : Nat := 0
       have tcall_ : Nat := 0
       have tmk_ : Nat := 0
       repeat' (first
        | (have q_ := tld_
           clear q_
           have q_ := tcall_
           clear q_
           have q_ := tmk_
           clear q_
           refine wpAnyH_ready (rs := [0, 3, 5]) (by kernel_rfl) (by simp) (AllReadyH.cons rfl (fun K hKld => ?_) (AllReadyH.cons rfl (fun K hKcall => ?_) (AllReadyH.cons rfl (fun K hKmk => ?_) AllReadyH.nil))))
        | (have q_ := tcall_
           clear q_
           have q_ := tmk_
           clear q_
           refine wpAnyH_ready (rs := [3, 5]) (by kernel_rfl) (by simp) (AllReadyH.cons rfl (fun K hKcall => ?_) (AllReadyH.cons rfl (fun K hKmk => ?_) AllReadyH.nil)))
        | (have q_ := tld_
           clear q_
           have q_ := tmk_
           clear q_
           refine wpAnyH_ready (rs := [0, 5]) (by kernel_rfl) (by simp) (AllReadyH.cons rfl (fun K hKld => ?_) (AllReadyH.cons rfl (fun K hKmk => ?_) AllReadyH.nil)))
        | (have q_ := tld_
           clear q_
           have q_ := tcall_
           clear q_
           refine wpAnyH_ready (rs := [0, 3]) (by kernel_rfl) (by simp) (AllReadyH.cons rfl (fun K hKld => ?_) (AllReadyH.cons rfl (fun K hKcall => ?_) AllReadyH.nil)))
        | (have q_ := tmk_
           clear q_
           refine wpAnyH_ready (rs := [5]) (by kernel_rfl) (by simp) (AllReadyH.cons rfl (fun K hKmk => ?_) AllReadyH.nil))
        | (have q_ := tcall_
           clear q_
           refine wpAnyH_ready (rs := [3]) (by kernel_rfl) (by simp) (AllReadyH.cons rfl (fun K hKcall => ?_) AllReadyH.nil))
        | (have q_ := tld_
           clear q_
           refine wpAnyH_ready (rs := [0]) (by kernel_rfl) (by simp) (AllReadyH.cons rfl (fun K hKld => ?_) AllReadyH.nil))
        | (have hK := hKcall
           clear hKcall
           clear tcall_
           have q_ := tmk_
           clear q_
           go_simp
           refine (HE.out Z.drew us (HO.out.rd HH.out).drew HSZ.out).mono ?_
           rintro e w2 hp
           rw [HXE.out] at hp
           obtain ⟨⟨v2, rfl, u2, rfl, hn2, hi2⟩, hr2, hc2⟩ := hp
           obtain ⟨A2, z2, c2, hu2⟩ : ∃ A z c, u2 = .slice A z c := by cases hi2; exact ⟨_, _, _, rfl⟩
           subst hu2
           have hcz : Chg (fun b => b = R) Z w2 := ⟨hc2.os, hc2.tape, hc2.output, hc2.size, hc2.block⟩
           have HF2 := lh (HO.out.step HH.out hr2 hcz)
           have HC2 := lh hcz
           have HI2 := lh hi2
           have HN2 := lh hn2
           clear hi2 hn2 hr2 hc2 hcz p0 p1 q4 hHeld
           have p0 := HO.out.c0 HF2.out
           have p1 := HO.out.c1 HF2.out
           have q4 := HO.out.cv HF2.out
           go_wp2_with fail
           refine hK.out _ _ ⟨p0, p1⟩ (fun hHeld => ?_)
           clear hK K)
        | (have hK := hKmk
           clear hKmk
           clear tmk_
           have q_ := tcall_
           clear q_
           go_simp
           have p0 := Xaa (o := (.cells #[.int .i64 0, .int .i64 0, .int .i64 0, .string ⟨#[]⟩, .slice none 0 0] 152)) p0
           have p1 := Xaa (o := (.cells #[.int .i64 0, .int .i64 0, .int .i64 0, .string ⟨#[]⟩, .slice none 0 0] 152)) p1
           have q4 := Xaa (o := (.cells #[.int .i64 0, .int .i64 0, .int .i64 0, .string ⟨#[]⟩, .slice none 0 0] 152)) q4
           have x4 := Xaa (o := (.cells #[.int .i64 0, .int .i64 0, .int .i64 0, .string ⟨#[]⟩, .slice none 0 0] 152)) y4
           refine hK.out _ _ ⟨p0, p1⟩ (fun hHeld => ?_)
           clear hK K)
        | (have hK := hKld
           clear hKld
           clear tld_
           go_simp
           refine hK.out _ _ ⟨p0, p1⟩ (fun hHeld => ?_)
           clear hK K
           refine wpAnyH_take (i := 4) (oi := _) (v := .int .i64 k) rfl (by kernel_rfl) (by kernel_rfl) (by kernel_rfl) (fun _ _ _ h => h) (Or.inl ⟨by rfl, fun W hS => ?_⟩) hHeld ?_
           · obtain ⟨s0, s1⟩ := hS
             go_simp
             try rw [HWR.out]
           simp only [Act.put])
        | (have hK := hKmk
           clear hKmk
           clear tmk_
           have tlast_ : Nat := 0
           go_simp
           have p0 := Xaa (o := (.cells #[.int .i64 0, .int .i64 0, .int .i64 0, .string ⟨#[]⟩, .slice none 0 0] 152)) p0
           have p1 := Xaa (o := (.cells #[.int .i64 0, .int .i64 0, .int .i64 0, .string ⟨#[]⟩, .slice none 0 0] 152)) p1
           have q4 := Xaa (o := (.cells #[.int .i64 0, .int .i64 0, .int .i64 0, .string ⟨#[]⟩, .slice none 0 0] 152)) q4
           refine hK.out _ _ ⟨p0, p1⟩ (fun hHeld => ?_)
           clear hK K)
        | (have hK := hKcall
           clear hKcall
           clear tcall_
           go_simp
           refine (HE.out (Z.drew.alloc (.cells #[.int .i64 0, .int .i64 0, .int .i64 0, .string ⟨#[]⟩, .slice none 0 0] 152)) us ((HO.out.rd HH.out).drew.alloc HSZ.out _) (by have := HSZ.out; simp; omega)).mono ?_
           rintro e w2 hp
           rw [HXE.out] at hp
           obtain ⟨⟨v2, rfl, u2, rfl, hn2, hi2⟩, hr2, hc2⟩ := hp
           obtain ⟨A2, z2, c2, hu2⟩ : ∃ A z c, u2 = .slice A z c := by cases hi2; exact ⟨_, _, _, rfl⟩
           subst hu2
           have hcz : Chg (fun b => b = R) Z w2 := (Chg.up (b := Z.alloc (.cells #[.int .i64 0, .int .i64 0, .int .i64 0, .string ⟨#[]⟩, .slice none 0 0] 152)) (Chg.of_below (Xae _ _)) ⟨hc2.os, hc2.tape, hc2.output, hc2.size, hc2.block⟩)
           have HF2 := lh (HO.out.step HH.out hr2 hcz)
           have HC2 := lh hcz
           have HI2 := lh hi2
           have HN2 := lh hn2
           have HZB : Hid (w2.heap[Z.heap.size]? = some (.cells #[.int .i64 0, .int .i64 0, .int .i64 0, .string ⟨#[]⟩, .slice none 0 0] 152 (0, 0))) := lh (hc2.row (heap_alloc_new Z.drew _) (by have := HRL.out; have := HO.out.size HH.out; show Z.heap.size ≠ R; omega))
           clear hi2 hn2 hr2 hc2 hcz p0 p1 q4 hHeld
           have p0 := HO.out.c0 HF2.out
           have p1 := HO.out.c1 HF2.out
           have q4 := HO.out.cv HF2.out
           go_wp2_with fail
           refine hK.out _ _ ⟨p0, p1⟩ (fun hHeld => ?_)
           clear hK K)
        | (have q_ := tlast_
           clear q_
           refine wpAnyH_ready (rs := [6]) (by kernel_rfl) (by simp) ?_
           refine AllReadyH.cons rfl (fun K hK => ?_) AllReadyH.nil
           refine Xbh rfl _ _ (by rfl) lo (.slice A0 k c0) xs (by rfl) (P := fun b => lo ≤ b) ?ho ⟨w2.heap.size, 0, none⟩ 1 noEx (.slice none 0 0) (by rfl) ?hn ?hu (by simp [noEx, Ex.name]) (by have := HK.out; omega) ?hb ?_
           case ho => exact Xaf.keep (Xaq (fun b hb e => by have := HRL.out; omega) HRL.out HOWN.out HC2.out) (by simp) fun b hb _ => Below.heap_alloc _ _ _ hb
           case hn => exact Xnx (x := noEx) (u := .slice none 0 0) 0 0 0 _ rfl
           case hb => have := HO.out.size HF2.out; simp; omega
           case hu => exact Xbb.mk [] none 0 (fun _ => undef) (Nat.le_refl _) (by omega) (fun k hk => absurd hk (by simp)) (fun k hk => absurd hk (by simp))
           intro g3 c3 w3 hown3 hgr hat
           rw [← HK.out] at hown3 ⊢
           have hk3 : ∀ b, b < w2.heap.size → (Value.slice A0 k c0).ownBlock ≠ some b → w3.heap[b]? = w2.heap[b]? := fun b hb hn => (hgr.block b (by simp; omega) (fun e => hn e.symm)).trans (Below.heap_alloc _ _ _ hb)
           have hs3 : w2.heap.size ≤ w3.heap.size := by have := hgr.size; simp at this; omega
           have hat : (Value.slice A0 k c0).ownBlock = some g3 ∨ w2.heap.size ≤ g3 := hat.imp id fun e => by rw [e]; simp
           have hs3x := lh hs3
           have ho3 : w3.os = w2.os ∧ w3.tape = w2.tape ∧ w3.output = w2.output := ⟨hgr.os, hgr.tape, hgr.output⟩
           obtain ⟨HW, HIU⟩ := Xla HO.out HRL.out HOWN.out HC2.out HF2.out HI2.out (by first | exact Nat.le_refl _ | simp) HSL.out hk3 hs3 hat ho3
           have HS3 : Hid (Z.heap.size ≤ w3.heap.size) := lh (Nat.le_trans HC2.out.size hs3x.out)
           have HFIN := lh (Xkz HO.out HK.out HW hown3 HIU HN2.out)
           have p0 := HO.out.c0 HW
           have p1 := HO.out.c1 HW
           have p4 := HO.out.cv HW
           have z4 := HO.out.fz HW
           obtain ⟨⟨t0, e0⟩, f0⟩ := Xaw HK.out hown3 0 (by omega)
           obtain ⟨⟨t1, e1⟩, f1⟩ := Xaw HK.out hown3 1 (by omega)
           obtain ⟨⟨y2, e2⟩, f2⟩ := Xaw HK.out hown3 2 (by omega)
           obtain ⟨⟨y3, e3⟩, f3⟩ := Xaw HK.out hown3 3 (by omega)
           obtain ⟨⟨t4, e4⟩, f4⟩ := Xaw HK.out hown3 4 (by omega)
           rw [Nat.add_zero] at e0 f0
           have hgl : lo ≤ g3 := (hown3.lt (b := g3) rfl).1
           have hne : ¬ g3 = C := by have := HO.out.lv; simp at this; omega
           have hne' : ¬ C = g3 := by omega
           have hg0 : ¬ G0 = g3 := by have := HO.out.l0; omega
           have hg1 : ¬ G1 = g3 := by have := HO.out.l1; omega
           have ha0 : ¬ G0 = C := fun e => HO.out.n0 e.symm
           have ha1 : ¬ G1 = C := fun e => HO.out.n1 e.symm
           clear hown3 hgr hat hk3 hs3 ho3 HW HIU HXE hHeld q4
           have HLT : Hid ((k : Int) < (k : Int) + 1) := lh (by omega)
           refine hK.out _ _ ⟨p0, p1⟩ (fun hHeld => ?_)
           clear hK K
           refine wpAnyH_take (i := 7) (oi := _) (v := .pointer (some ⟨g3, k * 5, none⟩)) rfl (by kernel_rfl) (by kernel_rfl) (by kernel_rfl) (fun _ _ _ h => h) (Or.inl ⟨by rfl, fun W hS => ?_⟩) hHeld ?_
           · go_simp
             intro hle
             exact absurd hle (by omega)
           simp only [Act.put]
           refine wpAnyH_ready (rs := [8, 9]) (by kernel_rfl) (by simp) ?_
           refine AllReadyH.cons rfl (fun K hK => ?_) (AllReadyH.cons rfl (fun K hK => ?_) AllReadyH.nil)
           ·
            go_simp
            have pA0 : (five w3 g3 (k * 5) a (.slice A2 z2 c2)).cell? ⟨G0, 0, none⟩ = some (.pointer (some ⟨R, 0, none⟩)) := (World.cell?_of_block ((Xax w3 g3 (k * 5) a (.slice A2 z2 c2)).block _ (World.block_lt_of_cell? _ _ p0) hg0)).trans p0
            have pA1 : (five w3 g3 (k * 5) a (.slice A2 z2 c2)).cell? ⟨G1, 0, none⟩ = some (.int .i64 D) := (World.cell?_of_block ((Xax w3 g3 (k * 5) a (.slice A2 z2 c2)).block _ (World.block_lt_of_cell? _ _ p1) hg1)).trans p1
            have pA4 : (five w3 g3 (k * 5) a (.slice A2 z2 c2)).cell? ⟨C, 0, none⟩ = some (.slice A0 k c0) := (World.cell?_of_block ((Xax w3 g3 (k * 5) a (.slice A2 z2 c2)).block _ (World.block_lt_of_cell? _ _ p4) hne')).trans p4
            have zA4 : (five w3 g3 (k * 5) a (.slice A2 z2 c2)).frozen? ⟨C, 0, none⟩ = false := (World.frozen?_of_block ((Xax w3 g3 (k * 5) a (.slice A2 z2 c2)).block _ (World.block_lt_of_cell? _ _ p4) hne')).trans z4
            change K _ (five w3 g3 (k * 5) a (.slice A2 z2 c2))
            refine hK.out _ _ ⟨pA0, pA1⟩ (fun hHeld => ?_)
            clear hK K
            obtain ⟨WA, hWA⟩ : ∃ WA, WA = five w3 g3 (k * 5) a (.slice A2 z2 c2) := ⟨_, rfl⟩
            have HWS : Hid (Z.heap.size ≤ WA.heap.size) := lh (by rw [hWA]; exact Nat.le_trans HS3.out (Xax w3 g3 (k * 5) a (.slice A2 z2 c2)).size)
            rw [← hWA] at HFIN pA0 pA1 pA4 zA4 hHeld ⊢
            clear hWA e0 e1 e2 e3 e4 f0 f1 f2 f3 f4 p0 p1 p4 z4
            refine wpAnyH_ready (rs := [9]) (by kernel_rfl) (by simp) ?_
            refine AllReadyH.cons rfl (fun K hK => ?_) AllReadyH.nil
            go_simp
            refine hK.out _ _ ⟨(World.cell?_of_block (Below.heap_setCell _ _ _ _ ha0)).trans pA0, (World.cell?_of_block (Below.heap_setCell _ _ _ _ ha1)).trans pA1⟩ (fun hHeld => ?_)
            clear hK K
            refine wpAnyH_done (by kernel_rfl) ?_ _
            go_wp2
            go_end0
            exact ⟨⟨rfl, _, _, _, HFIN.out.1.1, HFIN.out.1.2⟩, by have := HWS.out; simpa [World.setCell] using ((Nat.le_trans HS0.out HWS.out))⟩
           ·
            go_simp
            change K _ (w3.setCell ⟨C, 0, none⟩ (.slice (some ⟨g3, 0, none⟩) (k + 1) c3))
            obtain ⟨WB, hWB⟩ : ∃ WB, WB = w3.setCell ⟨C, 0, none⟩ (.slice (some ⟨g3, 0, none⟩) (k + 1) c3) := ⟨_, rfl⟩
            have hcB : ∀ b i, b ≠ C → WB.cell? ⟨b, i, none⟩ = w3.cell? ⟨b, i, none⟩ := fun b i hb => by rw [hWB]; exact World.cell?_of_block (Below.heap_setCell _ _ _ _ hb)
            have hfB : ∀ b i, b ≠ C → WB.frozen? ⟨b, i, none⟩ = w3.frozen? ⟨b, i, none⟩ := fun b i hb => by rw [hWB]; exact World.frozen?_of_block (Below.heap_setCell _ _ _ _ hb)
            have p0 := (hcB _ _ ha0).trans p0
            have p1 := (hcB _ _ ha1).trans p1
            have e0 := (hcB _ _ hne).trans e0
            have e1 := (hcB _ _ hne).trans e1
            have e2 := (hcB _ _ hne).trans e2
            have e3 := (hcB _ _ hne).trans e3
            have e4 := (hcB _ _ hne).trans e4
            have f0 := (hfB _ _ hne).trans f0
            have f1 := (hfB _ _ hne).trans f1
            have f2 := (hfB _ _ hne).trans f2
            have f3 := (hfB _ _ hne).trans f3
            have f4 := (hfB _ _ hne).trans f4
            have HWB : Hid (Z.heap.size ≤ WB.heap.size) := lh (by rw [hWB]; simpa [World.setCell] using HS3.out)
            rw [← hWB] at HFIN ⊢
            clear hWB hcB hfB z4 p4
            refine hK.out _ _ ⟨p0, p1⟩ (fun hHeld => ?_)
            clear hK K
            refine wpAnyH_ready (rs := [8]) (by kernel_rfl) (by simp) ?_
            refine AllReadyH.cons rfl (fun K hK => ?_) AllReadyH.nil
            go_simp
            have pA0 : (five WB g3 (k * 5) a (.slice A2 z2 c2)).cell? ⟨G0, 0, none⟩ = some (.pointer (some ⟨R, 0, none⟩)) := (World.cell?_of_block ((Xax WB g3 (k * 5) a (.slice A2 z2 c2)).block _ (World.block_lt_of_cell? _ _ p0) hg0)).trans p0
            have pA1 : (five WB g3 (k * 5) a (.slice A2 z2 c2)).cell? ⟨G1, 0, none⟩ = some (.int .i64 D) := (World.cell?_of_block ((Xax WB g3 (k * 5) a (.slice A2 z2 c2)).block _ (World.block_lt_of_cell? _ _ p1) hg1)).trans p1
            change K _ (five WB g3 (k * 5) a (.slice A2 z2 c2))
            refine hK.out _ _ ⟨pA0, pA1⟩ (fun hHeld => ?_)
            clear hK K
            obtain ⟨WA, hWA⟩ : ∃ WA, WA = five WB g3 (k * 5) a (.slice A2 z2 c2) := ⟨_, rfl⟩
            have HWS : Hid (Z.heap.size ≤ WA.heap.size) := lh (by rw [hWA]; exact Nat.le_trans HWB.out (Xax WB g3 (k * 5) a (.slice A2 z2 c2)).size)
            rw [← hWA] at HFIN ⊢
            refine wpAnyH_done (by kernel_rfl) ?_ _
            clear hHeld pA0 pA1 hWA
            go_wp2
            go_end0
            exact ⟨⟨rfl, _, _, _, HFIN.out.2.1, HFIN.out.2.2⟩, (Nat.le_trans HS0.out HWS.out)⟩)
        | (refine wpAnyH_ready (rs := [6]) (by kernel_rfl) (by simp) ?_
           refine AllReadyH.cons rfl (fun K hK => ?_) AllReadyH.nil
           refine Xbh rfl _ _ (by rfl) lo (.slice A0 k c0) xs (by rfl) (P := fun b => lo ≤ b) ?ho ⟨Z.heap.size, 0, none⟩ 1 noEx (.slice none 0 0) (by rfl) ?hn ?hu (by simp [noEx, Ex.name]) (by have := HK.out; omega) ?hb ?_
           case ho => exact Xaq (fun b hb e => by have := HRL.out; omega) HRL.out HOWN.out HC2.out
           case hn => exact Xwb HZB.out
           case hb => exact HO.out.size HF2.out
           case hu => exact Xbb.mk [] none 0 (fun _ => undef) (Nat.le_refl _) (by omega) (fun k hk => absurd hk (by simp)) (fun k hk => absurd hk (by simp))
           intro g3 c3 w3 hown3 hgr hat
           rw [← HK.out] at hown3 ⊢
           have hk3 : ∀ b, b < w2.heap.size → (Value.slice A0 k c0).ownBlock ≠ some b → w3.heap[b]? = w2.heap[b]? := fun b hb hn => hgr.block b hb (fun e => hn e.symm)
           have hs3 : w2.heap.size ≤ w3.heap.size := hgr.size
           have hat : (Value.slice A0 k c0).ownBlock = some g3 ∨ w2.heap.size ≤ g3 := hat.imp id fun e => by rw [e]; exact Nat.le_refl _
           have hs3x := lh hs3
           have ho3 : w3.os = w2.os ∧ w3.tape = w2.tape ∧ w3.output = w2.output := ⟨hgr.os, hgr.tape, hgr.output⟩
           obtain ⟨HW, HIU⟩ := Xla HO.out HRL.out HOWN.out HC2.out HF2.out HI2.out (by first | exact Nat.le_refl _ | simp) HSL.out hk3 hs3 hat ho3
           have HS3 : Hid (Z.heap.size ≤ w3.heap.size) := lh (Nat.le_trans HC2.out.size hs3x.out)
           have HFIN := lh (Xkz HO.out HK.out HW hown3 HIU HN2.out)
           have p0 := HO.out.c0 HW
           have p1 := HO.out.c1 HW
           have p4 := HO.out.cv HW
           have z4 := HO.out.fz HW
           obtain ⟨⟨t0, e0⟩, f0⟩ := Xaw HK.out hown3 0 (by omega)
           obtain ⟨⟨t1, e1⟩, f1⟩ := Xaw HK.out hown3 1 (by omega)
           obtain ⟨⟨y2, e2⟩, f2⟩ := Xaw HK.out hown3 2 (by omega)
           obtain ⟨⟨y3, e3⟩, f3⟩ := Xaw HK.out hown3 3 (by omega)
           obtain ⟨⟨t4, e4⟩, f4⟩ := Xaw HK.out hown3 4 (by omega)
           rw [Nat.add_zero] at e0 f0
           have hgl : lo ≤ g3 := (hown3.lt (b := g3) rfl).1
           have hne : ¬ g3 = C := by have := HO.out.lv; simp at this; omega
           have hne' : ¬ C = g3 := by omega
           have hg0 : ¬ G0 = g3 := by have := HO.out.l0; omega
           have hg1 : ¬ G1 = g3 := by have := HO.out.l1; omega
           have ha0 : ¬ G0 = C := fun e => HO.out.n0 e.symm
           have ha1 : ¬ G1 = C := fun e => HO.out.n1 e.symm
           clear hown3 hgr hat hk3 hs3 ho3 HW HIU HXE hHeld q4
           have HLT : Hid ((k : Int) < (k : Int) + 1) := lh (by omega)
           refine hK.out _ _ ⟨p0, p1⟩ (fun hHeld => ?_)
           clear hK K
           refine wpAnyH_take (i := 7) (oi := _) (v := .pointer (some ⟨g3, k * 5, none⟩)) rfl (by kernel_rfl) (by kernel_rfl) (by kernel_rfl) (fun _ _ _ h => h) (Or.inl ⟨by rfl, fun W hS => ?_⟩) hHeld ?_
           · go_simp
             intro hle
             exact absurd hle (by omega)
           simp only [Act.put]
           refine wpAnyH_ready (rs := [8, 9]) (by kernel_rfl) (by simp) ?_
           refine AllReadyH.cons rfl (fun K hK => ?_) (AllReadyH.cons rfl (fun K hK => ?_) AllReadyH.nil)
           ·
            go_simp
            have pA0 : (five w3 g3 (k * 5) a (.slice A2 z2 c2)).cell? ⟨G0, 0, none⟩ = some (.pointer (some ⟨R, 0, none⟩)) := (World.cell?_of_block ((Xax w3 g3 (k * 5) a (.slice A2 z2 c2)).block _ (World.block_lt_of_cell? _ _ p0) hg0)).trans p0
            have pA1 : (five w3 g3 (k * 5) a (.slice A2 z2 c2)).cell? ⟨G1, 0, none⟩ = some (.int .i64 D) := (World.cell?_of_block ((Xax w3 g3 (k * 5) a (.slice A2 z2 c2)).block _ (World.block_lt_of_cell? _ _ p1) hg1)).trans p1
            have pA4 : (five w3 g3 (k * 5) a (.slice A2 z2 c2)).cell? ⟨C, 0, none⟩ = some (.slice A0 k c0) := (World.cell?_of_block ((Xax w3 g3 (k * 5) a (.slice A2 z2 c2)).block _ (World.block_lt_of_cell? _ _ p4) hne')).trans p4
            have zA4 : (five w3 g3 (k * 5) a (.slice A2 z2 c2)).frozen? ⟨C, 0, none⟩ = false := (World.frozen?_of_block ((Xax w3 g3 (k * 5) a (.slice A2 z2 c2)).block _ (World.block_lt_of_cell? _ _ p4) hne')).trans z4
            change K _ (five w3 g3 (k * 5) a (.slice A2 z2 c2))
            refine hK.out _ _ ⟨pA0, pA1⟩ (fun hHeld => ?_)
            clear hK K
            obtain ⟨WA, hWA⟩ : ∃ WA, WA = five w3 g3 (k * 5) a (.slice A2 z2 c2) := ⟨_, rfl⟩
            have HWS : Hid (Z.heap.size ≤ WA.heap.size) := lh (by rw [hWA]; exact Nat.le_trans HS3.out (Xax w3 g3 (k * 5) a (.slice A2 z2 c2)).size)
            rw [← hWA] at HFIN pA0 pA1 pA4 zA4 hHeld ⊢
            clear hWA e0 e1 e2 e3 e4 f0 f1 f2 f3 f4 p0 p1 p4 z4
            refine wpAnyH_ready (rs := [9]) (by kernel_rfl) (by simp) ?_
            refine AllReadyH.cons rfl (fun K hK => ?_) AllReadyH.nil
            go_simp
            refine hK.out _ _ ⟨(World.cell?_of_block (Below.heap_setCell _ _ _ _ ha0)).trans pA0, (World.cell?_of_block (Below.heap_setCell _ _ _ _ ha1)).trans pA1⟩ (fun hHeld => ?_)
            clear hK K
            refine wpAnyH_done (by kernel_rfl) ?_ _
            go_wp2
            go_end0
            exact ⟨⟨rfl, _, _, _, HFIN.out.1.1, HFIN.out.1.2⟩, by have := HWS.out; simpa [World.setCell] using ((Nat.le_trans HS0.out HWS.out))⟩
           ·
            go_simp
            change K _ (w3.setCell ⟨C, 0, none⟩ (.slice (some ⟨g3, 0, none⟩) (k + 1) c3))
            obtain ⟨WB, hWB⟩ : ∃ WB, WB = w3.setCell ⟨C, 0, none⟩ (.slice (some ⟨g3, 0, none⟩) (k + 1) c3) := ⟨_, rfl⟩
            have hcB : ∀ b i, b ≠ C → WB.cell? ⟨b, i, none⟩ = w3.cell? ⟨b, i, none⟩ := fun b i hb => by rw [hWB]; exact World.cell?_of_block (Below.heap_setCell _ _ _ _ hb)
            have hfB : ∀ b i, b ≠ C → WB.frozen? ⟨b, i, none⟩ = w3.frozen? ⟨b, i, none⟩ := fun b i hb => by rw [hWB]; exact World.frozen?_of_block (Below.heap_setCell _ _ _ _ hb)
            have p0 := (hcB _ _ ha0).trans p0
            have p1 := (hcB _ _ ha1).trans p1
            have e0 := (hcB _ _ hne).trans e0
            have e1 := (hcB _ _ hne).trans e1
            have e2 := (hcB _ _ hne).trans e2
            have e3 := (hcB _ _ hne).trans e3
            have e4 := (hcB _ _ hne).trans e4
            have f0 := (hfB _ _ hne).trans f0
            have f1 := (hfB _ _ hne).trans f1
            have f2 := (hfB _ _ hne).trans f2
            have f3 := (hfB _ _ hne).trans f3
            have f4 := (hfB _ _ hne).trans f4
            have HWB : Hid (Z.heap.size ≤ WB.heap.size) := lh (by rw [hWB]; simpa [World.setCell] using HS3.out)
            rw [← hWB] at HFIN ⊢
            clear hWB hcB hfB z4 p4
            refine hK.out _ _ ⟨p0, p1⟩ (fun hHeld => ?_)
            clear hK K
            refine wpAnyH_ready (rs := [8]) (by kernel_rfl) (by simp) ?_
            refine AllReadyH.cons rfl (fun K hK => ?_) AllReadyH.nil
            go_simp
            have pA0 : (five WB g3 (k * 5) a (.slice A2 z2 c2)).cell? ⟨G0, 0, none⟩ = some (.pointer (some ⟨R, 0, none⟩)) := (World.cell?_of_block ((Xax WB g3 (k * 5) a (.slice A2 z2 c2)).block _ (World.block_lt_of_cell? _ _ p0) hg0)).trans p0
            have pA1 : (five WB g3 (k * 5) a (.slice A2 z2 c2)).cell? ⟨G1, 0, none⟩ = some (.int .i64 D) := (World.cell?_of_block ((Xax WB g3 (k * 5) a (.slice A2 z2 c2)).block _ (World.block_lt_of_cell? _ _ p1) hg1)).trans p1
            change K _ (five WB g3 (k * 5) a (.slice A2 z2 c2))
            refine hK.out _ _ ⟨pA0, pA1⟩ (fun hHeld => ?_)
            clear hK K
            obtain ⟨WA, hWA⟩ : ∃ WA, WA = five WB g3 (k * 5) a (.slice A2 z2 c2) := ⟨_, rfl⟩
            have HWS : Hid (Z.heap.size ≤ WA.heap.size) := lh (by rw [hWA]; exact Nat.le_trans HWB.out (Xax WB g3 (k * 5) a (.slice A2 z2 c2)).size)
            rw [← hWA] at HFIN ⊢
            refine wpAnyH_done (by kernel_rfl) ?_ _
            clear hHeld pA0 pA1 hWA
            go_wp2
            go_end0
            exact ⟨⟨rfl, _, _, _, HFIN.out.2.1, HFIN.out.2.2⟩, (Nat.le_trans HS0.out HWS.out)⟩))
end Go.Proofs.YtbckeljbpknbdaaGreatDoor
