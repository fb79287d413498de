/- Ft -/
import Derived.Test.YtbckeljbpknbdaaGreatDoorVb5
import Derived.Test.YtbckeljbpknbdaaGreatDoorVc3
set_option linter.unusedVariables false
set_option linter.unusedSimpArgs false
namespace Go.Proofs.YtbckeljbpknbdaaGreatDoor
open Go.RowKit
def SmsB (base : Nat) (w' : World) (xs : List Sm) (v : Value) : Prop := Xay w' (fun b => base ≤ b ∧ b < w'.heap.size) xs v
def ExsB (base : Nat) (w' : World) (xs : List Ex) (v : Value) : Prop := Xbb w' (fun b => base ≤ b ∧ b < w'.heap.size) xs v
set_option maxRecDepth 100000 in
theorem Xyv {w w0 : World} {B R L n : Nat} {D : Int} (hB : B ≤ w.heap.size) (hR : R < B) (hD0 : 0 ≤ D) (hD1 : D ≤ 25)
  (hE : ∀ (w : World) (us : List Tok), RdAt w B R L us → B ≤ w.heap.size → Calls Tryz.prog 110 #[.pointer (some ⟨R, 0, none⟩), .int .i64 D] w (Xaj (ExB w.heap.size) w B R L (Xah L n us))) (h0 : Chg (fun b => b = R) w w0) : Elem w0 B R L 127 #[.pointer (some ⟨w.heap.size, 0, none⟩), .pointer (some ⟨w.heap.size + 1 + 1, 0, none⟩), .pointer (some ⟨w.heap.size + 1, 0, none⟩)] (fun b => b = R ∨ w.heap.size ≤ b) (argM L (Xah L n))
    (fun Z acc => ∃ A m c, Xkx 66 w B R D Z (.slice A m c) ∧ Xaf Z (fun b => w.heap.size + 3 ≤ b) (w.heap.size + 3) (.slice A m c) acc) where
 ent := fun _ _ => rfl
 keep Z Z' acc hi hc := by
  obtain ⟨A, m, c, hl, ho⟩ := hi
  exact ⟨A, m, c, hl.step hc, Xaq (fun b hb e => by omega) (by omega) ho hc⟩
 reader := .inl rfl
 less k us := Xqo n k us
 call acc us Z hr hBz hc hi hk := by
  obtain ⟨A, m, c, hl, ho⟩ := hi
  refine Calls.mono (eargs (ls_ok hB) ⟨hl, hr⟩ ho hk hD0 (by omega) hE) ?_
  rintro e w' ⟨hp, hsz⟩
  have hs2 := Nat.le_trans hc.size hsz
  cases hx : argM L (Xah L n) acc.length us with
  | bad p c =>
    have hp : Xgv w R (w.heap.size + 3) (LsFr 66 w B R L D) acc (.bad p c) e w' := by rw [← hx]; exact hp
    obtain ⟨rfl, hc2⟩ := hp
    exact ⟨rfl, Xgz h0 hc2 hs2⟩
  | ok a r =>
    have hp : Xgv w R (w.heap.size + 3) (LsFr 66 w B R L D) acc (.ok a r) e w' := by rw [← hx]; exact hp
    obtain ⟨rfl, A2, m2, c2, hf, ho2⟩ := hp
    exact ⟨rfl, hf.2, Xgz h0 hf.1.chg hs2, A2, m2, c2, hf.1, ho2⟩
set_option maxRecDepth 100000 in
set_option maxHeartbeats 2000000 in
theorem Ybg {w : World} {B R L n : Nat} {us : List Tok} {D : Int} (h : RdAt w B R L us) (hB : B ≤ w.heap.size) (hD0 : 0 ≤ D) (hD1 : D ≤ 25) 
  (hE : ∀ (w : World) (us : List Tok), RdAt w B R L us → B ≤ w.heap.size → Calls Tryz.prog 110 #[.pointer (some ⟨R, 0, none⟩), .int .i64 D] w (Xaj (ExB w.heap.size) w B R L (Xah L n us))) : Calls Tryz.prog 113 #[.pointer (some ⟨R, 0, none⟩), .int .i64 D] w (Xaj (ExsB w.heap.size) w B R L (Xgx L (Xah L n) us)) := by
 obtain ⟨Y, hY⟩ : ∃ Y : World, Y = ((w.alloc (.cells #[.pointer (some ⟨R, 0, none⟩)] 52)).alloc (.cells #[.int .i64 D] 3)).alloc (.cells #[.slice none 0 0] 66) := ⟨_, rfl⟩
 have hf := Xxs (T := 66) (D := D) hB h hY
 have hys : Y.heap.size = w.heap.size + 1 + 1 + 1 := by rw [hY]; simp
 have HT := lh (Xan hf.2 (by omega) [[40]] (by simp) (by decide))
 rw [hys] at HT
 have HF0 := lh hf
 have HY := lh hY
 have HM0 : Hid (Xgx L (Xah L n) us = (Xal L [[40]] us).bind fun _ r => Xas [41] 0 (argM L (Xah L n)) (r.length + 1) 0 r) := lh rfl
 have q0 := hf.1.cells.1
 have HB := lh hB
 have HR := lh h.lt
 have HE := lh hE
 clear h hf hY hB hE hys
 go_enter Tryz.func113, Tryz.ntmps113
 go_wp2_with fail
 rw [← HY.out]
 refine HT.out.mono ?_
 rintro e w1 hp
 cases hx : Xal L [[40]] us with
 | bad p c =>
   have HM := lh (HM0.out.trans (Xam hx))
   rw [hx] at hp
   obtain ⟨rfl, hc⟩ := hp
   have HC := lh (HF0.out.1.chg.up hc)
   clear hx hc q0
   unfold Xag
   go_wp2
   rw [HM.out]
   exact ⟨rfl, rfl, HC.out⟩
 | ok a1 u1 =>
   have HM := lh (HM0.out.trans (Xap hx))
   rw [hx] at hp
   obtain ⟨⟨v1, rfl, hv⟩, hr, hc⟩ := hp
   have HL1 := lh (HF0.out.1.step hc)
   have HR1 := lh hr
   clear hx hr hc hv q0 HF0 HT
   obtain ⟨q0, q1, q2, -⟩ := HL1.out.cells
   have HU := lh (Xiq (Xyv HB.out HR.out hD0 hD1 HE.out HL1.out.chg (L := L) (n := n)) HR1.out (by have := HL1.out.lt; have := HB.out; omega) ⟨_, _, _, HL1.out, Xaf.nil _ _ _⟩ [41] 0 (Xjc (by decide)))
   go_wp2_with fail
   refine HU.out.mono ?_
   rintro e w2 hp
   cases hx : Xas [41] 0 (argM L (Xah L n)) (u1.length + 1) 0 u1 with
   | bad p c =>
     have HM := lh (HM.out.trans hx)
     rw [hx] at hp
     obtain ⟨rfl, hc⟩ := hp
     have HC := lh (Xfn HL1.out.chg hc)
     clear hx hc q0 q1 q2 HU
     unfold Xag
     go_wp2
     rw [HM.out]
     exact ⟨rfl, rfl, HC.out⟩
   | ok l u2 =>
     have HM := lh (HM.out.trans hx)
     rw [hx] at hp
     obtain ⟨rfl, hr, hc, A, m, c, hl, ho⟩ := hp
     have HRD := lh (hr (by decide))
     have HL2 := lh hl
     have HO2 := lh ho
     clear hx hr hc hl ho q0 q1 q2 HU
     have q2 := HL2.out.cells.2.2.1
     go_wp2
     go_ret
     rw [HM.out]
     exact ⟨⟨_, rfl, Xbb.keep (Xhf HO2.out) (fun _ _ => rfl) fun b hb => ⟨by omega, hb.2⟩⟩, HRD.out, HL2.out.chg⟩
set_option maxRecDepth 100000 in
theorem Xur {w w0 : World} {B R L n : Nat} {D : Int} (hB : B ≤ w.heap.size) (hR : R < B) (hD0 : 0 ≤ D) (hD1 : D ≤ 25)
  (hE : ∀ (w : World) (us : List Tok), RdAt w B R L us → B ≤ w.heap.size → Calls Tryz.prog 84 #[.pointer (some ⟨R, 0, none⟩), .int .i64 D] w (Xaj (SmB w.heap.size) w B R L (Xcp L n us))) (h0 : Chg (fun b => b = R) w w0) : Elem w0 B R L 83 #[.pointer (some ⟨w.heap.size + 1 + 1, 0, none⟩), .pointer (some ⟨w.heap.size, 0, none⟩), .pointer (some ⟨w.heap.size + 1, 0, none⟩)] (fun b => b = R ∨ w.heap.size ≤ b) ((fun _ => Xcp L n : Nat → List Tok → Rd Sm))
    (fun Z acc => ∃ A m c, Xkx 44 w B R D Z (.slice A m c) ∧ Xcn Z (w.heap.size + 3) (.slice A m c) acc) where
 ent := fun _ _ => rfl
 keep Z Z' acc hi hc := by
  obtain ⟨A, m, c, hl, ho⟩ := hi
  exact ⟨A, m, c, hl.step hc, Xoa (by omega) ho hc⟩
 reader := .inl rfl
 less k us := Xgs n us
 call acc us Z hr hBz hc hi hk := by
  obtain ⟨A, m, c, hl, ho⟩ := hi
  refine Calls.mono (Ybk (ls_ok hB) ⟨hl, hr⟩ ho hk hD0 (by omega) hE) ?_
  rintro e w' ⟨hp, hsz⟩
  have hs2 := Nat.le_trans hc.size hsz
  cases hx : Xcp L n us with
  | bad p c =>
    have hp : Xqk w R (w.heap.size + 3) (LsFr 44 w B R L D) acc (.bad p c) e w' := by rw [← hx]; exact hp
    obtain ⟨rfl, hc2⟩ := hp
    exact ⟨rfl, Xgz h0 hc2 hs2⟩
  | ok a r =>
    have hp : Xqk w R (w.heap.size + 3) (LsFr 44 w B R L D) acc (.ok a r) e w' := by rw [← hx]; exact hp
    obtain ⟨rfl, A2, m2, c2, hf, ho2⟩ := hp
    exact ⟨rfl, hf.2, Xgz h0 hf.1.chg hs2, A2, m2, c2, hf.1, ho2⟩
set_option maxRecDepth 100000 in
set_option maxHeartbeats 2000000 in
theorem Xph {w : World} {B R L n : Nat} {us : List Tok} {D : Int} (h : RdAt w B R L us) (hB : B ≤ w.heap.size) (hD0 : 0 ≤ D) (hD1 : D ≤ 25) (least : Nat)
  (hE : ∀ (w : World) (us : List Tok), RdAt w B R L us → B ≤ w.heap.size → Calls Tryz.prog 84 #[.pointer (some ⟨R, 0, none⟩), .int .i64 D] w (Xaj (SmB w.heap.size) w B R L (Xcp L n us))) : Calls Tryz.prog 57 #[.pointer (some ⟨R, 0, none⟩), .int .i64 D, .int .i64 (least : Nat)] w (Xaj (SmsB w.heap.size) w B R L (Xdp L (Xcp L n) least us)) := by
 obtain ⟨Y, hY⟩ : ∃ Y : World, Y = ((w.alloc (.cells #[.pointer (some ⟨R, 0, none⟩)] 52)).alloc (.cells #[.int .i64 D] 3)).alloc (.cells #[.slice none 0 0] 44) := ⟨_, rfl⟩
 have hf := Xxs (T := 44) (D := D) hB h hY
 have hys : Y.heap.size = w.heap.size + 1 + 1 + 1 := by rw [hY]; simp
 have HT := lh (Xan hf.2 (by omega) [[123]] (by simp) (by decide))
 rw [hys] at HT
 have HF0 := lh hf
 have HY := lh hY
 have HM0 : Hid (Xdp L (Xcp L n) least us = (Xal L [[123]] us).bind fun _ r => Xas [125] least ((fun _ => Xcp L n : Nat → List Tok → Rd Sm)) (r.length + 1) 0 r) := lh rfl
 have q0 := hf.1.cells.1
 have HB := lh hB
 have HR := lh h.lt
 have HE := lh hE
 clear h hf hY hB hE hys
 go_enter Tryz.func57, Tryz.ntmps57
 go_wp2_with fail
 rw [← HY.out]
 refine HT.out.mono ?_
 rintro e w1 hp
 cases hx : Xal L [[123]] us with
 | bad p c =>
   have HM := lh (HM0.out.trans (Xam hx))
   rw [hx] at hp
   obtain ⟨rfl, hc⟩ := hp
   have HC := lh (HF0.out.1.chg.up hc)
   clear hx hc q0
   unfold Xag
   go_wp2
   rw [HM.out]
   exact ⟨rfl, rfl, HC.out⟩
 | ok a1 u1 =>
   have HM := lh (HM0.out.trans (Xap hx))
   rw [hx] at hp
   obtain ⟨⟨v1, rfl, hv⟩, hr, hc⟩ := hp
   have HL1 := lh (HF0.out.1.step hc)
   have HR1 := lh hr
   clear hx hr hc hv q0 HF0 HT
   obtain ⟨q0, q1, q2, -⟩ := HL1.out.cells
   have HU := lh (Xiq (Xur HB.out HR.out hD0 hD1 HE.out HL1.out.chg (L := L) (n := n)) HR1.out (by have := HL1.out.lt; have := HB.out; omega) ⟨_, _, _, HL1.out, Xcn.none _ _⟩ [125] least (Xjc (by decide)))
   go_wp2_with fail
   refine HU.out.mono ?_
   rintro e w2 hp
   cases hx : Xas [125] least ((fun _ => Xcp L n : Nat → List Tok → Rd Sm)) (u1.length + 1) 0 u1 with
   | bad p c =>
     have HM := lh (HM.out.trans hx)
     rw [hx] at hp
     obtain ⟨rfl, hc⟩ := hp
     have HC := lh (Xfn HL1.out.chg hc)
     clear hx hc q0 q1 q2 HU
     unfold Xag
     go_wp2
     rw [HM.out]
     exact ⟨rfl, rfl, HC.out⟩
   | ok l u2 =>
     have HM := lh (HM.out.trans hx)
     rw [hx] at hp
     obtain ⟨rfl, hr, hc, A, m, c, hl, ho⟩ := hp
     have HRD := lh (hr (by decide))
     have HL2 := lh hl
     have HO2 := lh ho
     clear hx hr hc hl ho q0 q1 q2 HU
     have q2 := HL2.out.cells.2.2.1
     go_wp2
     go_ret
     rw [HM.out]
     exact ⟨⟨_, rfl, Xay.keep (Xcn.sms HO2.out) (fun _ _ => rfl) fun b hb => ⟨by have := hb.1; omega, hb.2⟩⟩, HRD.out, HL2.out.chg⟩
end Go.Proofs.YtbckeljbpknbdaaGreatDoor
