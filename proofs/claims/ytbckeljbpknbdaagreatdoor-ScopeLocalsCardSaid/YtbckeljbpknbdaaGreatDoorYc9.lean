/- Ft -/
import Derived.Test.YtbckeljbpknbdaaGreatDoorYb5
import Derived.Test.YtbckeljbpknbdaaGreatDoorYc3
set_option linter.unusedVariables false
set_option linter.unusedSimpArgs false
namespace Go.Proofs.YtbckeljbpknbdaaGreatDoor
open Go.RowKit
def SmsB (base : Nat) (w' : World) (xs : List Sm) (v : Value) : Prop := IsSms w' (fun b => base ≤ b ∧ b < w'.heap.size) xs v
def ExsB (base : Nat) (w' : World) (xs : List Ex) (v : Value) : Prop := IsExs w' (fun b => base ≤ b ∧ b < w'.heap.size) xs v
set_option maxRecDepth 100000 in
theorem argsR_elem {w w0 : World} {B R L n : Nat} {D : Int} (hB : B ≤ w.heap.size) (hR : R < B) (hD0 : 0 ≤ D) (hD1 : D ≤ 25)
  (hE : ∀ (w : World) (us : List Tok), RdAt w B R L us → B ≤ w.heap.size → Calls Tryz.prog 110 #[.pointer (some ⟨R, 0, none⟩), .int .i64 D] w (RdPost (ExB w.heap.size) w B R L (exprM L n us))) (h0 : Chg (fun b => b = R) w w0) : Elem w0 B R L 127 #[.pointer (some ⟨w.heap.size, 0, none⟩), .pointer (some ⟨w.heap.size + 1 + 1, 0, none⟩), .pointer (some ⟨w.heap.size + 1, 0, none⟩)] (fun b => b = R ∨ w.heap.size ≤ b) (argM L (exprM L n))
    (fun Z acc => ∃ A m c, LsRow 66 w B R D Z (.slice A m c) ∧ OwnExP Z (fun b => w.heap.size + 3 ≤ b) (w.heap.size + 3) (.slice A m c) acc) where
 ent := fun _ _ => rfl
 keep Z Z' acc hi hc := by
  obtain ⟨A, m, c, hl, ho⟩ := hi
  exact ⟨A, m, c, hl.step hc, own_step (fun b hb e => by omega) (by omega) ho hc⟩
 reader := .inl rfl
 less k us := argM_lt n k us
 call acc us Z hr hBz hc hi hk := by
  obtain ⟨A, m, c, hl, ho⟩ := hi
  refine Calls.mono (eargs (ls_ok hB) ⟨hl, hr⟩ ho hk hD0 (by omega) hE) ?_
  rintro e w' ⟨hp, hsz⟩
  have hs2 := Nat.le_trans hc.size hsz
  cases hx : argM L (exprM L n) acc.length us with
  | bad p c =>
    have hp : AppPost w R (w.heap.size + 3) (LsFr 66 w B R L D) acc (.bad p c) e w' := by rw [← hx]; exact hp
    obtain ⟨rfl, hc2⟩ := hp
    exact ⟨rfl, chg_own h0 hc2 hs2⟩
  | ok a r =>
    have hp : AppPost w R (w.heap.size + 3) (LsFr 66 w B R L D) acc (.ok a r) e w' := by rw [← hx]; exact hp
    obtain ⟨rfl, A2, m2, c2, hf, ho2⟩ := hp
    exact ⟨rfl, hf.2, chg_own h0 hf.1.chg hs2, A2, m2, c2, hf.1, ho2⟩
set_option maxRecDepth 100000 in
set_option maxHeartbeats 2000000 in
theorem argsR_any {w : World} {B R L n : Nat} {us : List Tok} {D : Int} (h : RdAt w B R L us) (hB : B ≤ w.heap.size) (hD0 : 0 ≤ D) (hD1 : D ≤ 25) 
  (hE : ∀ (w : World) (us : List Tok), RdAt w B R L us → B ≤ w.heap.size → Calls Tryz.prog 110 #[.pointer (some ⟨R, 0, none⟩), .int .i64 D] w (RdPost (ExB w.heap.size) w B R L (exprM L n us))) : Calls Tryz.prog 113 #[.pointer (some ⟨R, 0, none⟩), .int .i64 D] w (RdPost (ExsB w.heap.size) w B R L (argsM L (exprM L n) us)) := by
 obtain ⟨Y, hY⟩ : ∃ Y : World, Y = ((w.alloc (.cells #[.pointer (some ⟨R, 0, none⟩)] 52)).alloc (.cells #[.int .i64 D] 3)).alloc (.cells #[.slice none 0 0] 66) := ⟨_, rfl⟩
 have hf := ls_start (T := 66) (D := D) hB h hY
 have hys : Y.heap.size = w.heap.size + 1 + 1 + 1 := by rw [hY]; simp
 have HT := Lib.hid (take_new hf.2 (by omega) [[40]] (by simp) (by decide))
 rw [hys] at HT
 have HF0 := Lib.hid hf
 have HY := Lib.hid hY
 have HM0 : Hid (argsM L (exprM L n) us = (takeM L [[40]] us).bind fun _ r => untilM [41] 0 (argM L (exprM L n)) (r.length + 1) 0 r) := Lib.hid rfl
 have q0 := hf.1.cells.1
 have HB := Lib.hid hB
 have HR := Lib.hid h.lt
 have HE := Lib.hid hE
 clear h hf hY hB hE hys
 go_enter Tryz.func113, Tryz.ntmps113
 go_wp2_with fail
 rw [← HY.out]
 refine HT.out.mono ?_
 rintro e w1 hp
 cases hx : takeM L [[40]] us with
 | bad p c =>
   have HM := Lib.hid (HM0.out.trans (bind_bad' hx))
   rw [hx] at hp
   obtain ⟨rfl, hc⟩ := hp
   have HC := Lib.hid (HF0.out.1.chg.up hc)
   clear hx hc q0
   unfold thrown
   go_wp2
   rw [HM.out]
   exact ⟨rfl, rfl, HC.out⟩
 | ok a1 u1 =>
   have HM := Lib.hid (HM0.out.trans (bind_ok' hx))
   rw [hx] at hp
   obtain ⟨⟨v1, rfl, hv⟩, hr, hc⟩ := hp
   have HL1 := Lib.hid (HF0.out.1.step hc)
   have HR1 := Lib.hid hr
   clear hx hr hc hv q0 HF0 HT
   obtain ⟨q0, q1, q2, -⟩ := HL1.out.cells
   have HU := Lib.hid (until_any (argsR_elem HB.out HR.out hD0 hD1 HE.out HL1.out.chg (L := L) (n := n)) HR1.out (by have := HL1.out.lt; have := HB.out; omega) ⟨_, _, _, HL1.out, OwnExP.nil _ _ _⟩ [41] 0 (until_take (by decide)))
   go_wp2_with fail
   refine HU.out.mono ?_
   rintro e w2 hp
   cases hx : untilM [41] 0 (argM L (exprM L n)) (u1.length + 1) 0 u1 with
   | bad p c =>
     have HM := Lib.hid (HM.out.trans hx)
     rw [hx] at hp
     obtain ⟨rfl, hc⟩ := hp
     have HC := Lib.hid (chg_own_back HL1.out.chg hc)
     clear hx hc q0 q1 q2 HU
     unfold thrown
     go_wp2
     rw [HM.out]
     exact ⟨rfl, rfl, HC.out⟩
   | ok l u2 =>
     have HM := Lib.hid (HM.out.trans hx)
     rw [hx] at hp
     obtain ⟨rfl, hr, hc, A, m, c, hl, ho⟩ := hp
     have HRD := Lib.hid (hr (by decide))
     have HL2 := Lib.hid hl
     have HO2 := Lib.hid ho
     clear hx hr hc hl ho q0 q1 q2 HU
     have q2 := HL2.out.cells.2.2.1
     go_wp2
     go_ret
     rw [HM.out]
     exact ⟨⟨_, rfl, IsExs.keep (own_ex HO2.out) (fun _ _ => rfl) fun b hb => ⟨by omega, hb.2⟩⟩, HRD.out, HL2.out.chg⟩
set_option maxRecDepth 100000 in
theorem blockR_elem {w w0 : World} {B R L n : Nat} {D : Int} (hB : B ≤ w.heap.size) (hR : R < B) (hD0 : 0 ≤ D) (hD1 : D ≤ 25)
  (hE : ∀ (w : World) (us : List Tok), RdAt w B R L us → B ≤ w.heap.size → Calls Tryz.prog 84 #[.pointer (some ⟨R, 0, none⟩), .int .i64 D] w (RdPost (SmB w.heap.size) w B R L (stmtM L n us))) (h0 : Chg (fun b => b = R) w w0) : Elem w0 B R L 83 #[.pointer (some ⟨w.heap.size + 1 + 1, 0, none⟩), .pointer (some ⟨w.heap.size, 0, none⟩), .pointer (some ⟨w.heap.size + 1, 0, none⟩)] (fun b => b = R ∨ w.heap.size ≤ b) ((fun _ => stmtM L n : Nat → List Tok → Rd Sm))
    (fun Z acc => ∃ A m c, LsRow 44 w B R D Z (.slice A m c) ∧ OwnSm Z (w.heap.size + 3) (.slice A m c) acc) where
 ent := fun _ _ => rfl
 keep Z Z' acc hi hc := by
  obtain ⟨A, m, c, hl, ho⟩ := hi
  exact ⟨A, m, c, hl.step hc, ownS_step (by omega) ho hc⟩
 reader := .inl rfl
 less k us := stmtM_lt n us
 call acc us Z hr hBz hc hi hk := by
  obtain ⟨A, m, c, hl, ho⟩ := hi
  refine Calls.mono (bstmt_any (ls_ok hB) ⟨hl, hr⟩ ho hk hD0 (by omega) hE) ?_
  rintro e w' ⟨hp, hsz⟩
  have hs2 := Nat.le_trans hc.size hsz
  cases hx : stmtM L n us with
  | bad p c =>
    have hp : AppSPost w R (w.heap.size + 3) (LsFr 44 w B R L D) acc (.bad p c) e w' := by rw [← hx]; exact hp
    obtain ⟨rfl, hc2⟩ := hp
    exact ⟨rfl, chg_own h0 hc2 hs2⟩
  | ok a r =>
    have hp : AppSPost w R (w.heap.size + 3) (LsFr 44 w B R L D) acc (.ok a r) e w' := by rw [← hx]; exact hp
    obtain ⟨rfl, A2, m2, c2, hf, ho2⟩ := hp
    exact ⟨rfl, hf.2, chg_own h0 hf.1.chg hs2, A2, m2, c2, hf.1, ho2⟩
set_option maxRecDepth 100000 in
set_option maxHeartbeats 2000000 in
theorem blockR_any {w : World} {B R L n : Nat} {us : List Tok} {D : Int} (h : RdAt w B R L us) (hB : B ≤ w.heap.size) (hD0 : 0 ≤ D) (hD1 : D ≤ 25) (least : Nat)
  (hE : ∀ (w : World) (us : List Tok), RdAt w B R L us → B ≤ w.heap.size → Calls Tryz.prog 84 #[.pointer (some ⟨R, 0, none⟩), .int .i64 D] w (RdPost (SmB w.heap.size) w B R L (stmtM L n us))) : Calls Tryz.prog 57 #[.pointer (some ⟨R, 0, none⟩), .int .i64 D, .int .i64 (least : Nat)] w (RdPost (SmsB w.heap.size) w B R L (blockM L (stmtM L n) least us)) := by
 obtain ⟨Y, hY⟩ : ∃ Y : World, Y = ((w.alloc (.cells #[.pointer (some ⟨R, 0, none⟩)] 52)).alloc (.cells #[.int .i64 D] 3)).alloc (.cells #[.slice none 0 0] 44) := ⟨_, rfl⟩
 have hf := ls_start (T := 44) (D := D) hB h hY
 have hys : Y.heap.size = w.heap.size + 1 + 1 + 1 := by rw [hY]; simp
 have HT := Lib.hid (take_new hf.2 (by omega) [[123]] (by simp) (by decide))
 rw [hys] at HT
 have HF0 := Lib.hid hf
 have HY := Lib.hid hY
 have HM0 : Hid (blockM L (stmtM L n) least us = (takeM L [[123]] us).bind fun _ r => untilM [125] least ((fun _ => stmtM L n : Nat → List Tok → Rd Sm)) (r.length + 1) 0 r) := Lib.hid rfl
 have q0 := hf.1.cells.1
 have HB := Lib.hid hB
 have HR := Lib.hid h.lt
 have HE := Lib.hid hE
 clear h hf hY hB hE hys
 go_enter Tryz.func57, Tryz.ntmps57
 go_wp2_with fail
 rw [← HY.out]
 refine HT.out.mono ?_
 rintro e w1 hp
 cases hx : takeM L [[123]] us with
 | bad p c =>
   have HM := Lib.hid (HM0.out.trans (bind_bad' hx))
   rw [hx] at hp
   obtain ⟨rfl, hc⟩ := hp
   have HC := Lib.hid (HF0.out.1.chg.up hc)
   clear hx hc q0
   unfold thrown
   go_wp2
   rw [HM.out]
   exact ⟨rfl, rfl, HC.out⟩
 | ok a1 u1 =>
   have HM := Lib.hid (HM0.out.trans (bind_ok' hx))
   rw [hx] at hp
   obtain ⟨⟨v1, rfl, hv⟩, hr, hc⟩ := hp
   have HL1 := Lib.hid (HF0.out.1.step hc)
   have HR1 := Lib.hid hr
   clear hx hr hc hv q0 HF0 HT
   obtain ⟨q0, q1, q2, -⟩ := HL1.out.cells
   have HU := Lib.hid (until_any (blockR_elem HB.out HR.out hD0 hD1 HE.out HL1.out.chg (L := L) (n := n)) HR1.out (by have := HL1.out.lt; have := HB.out; omega) ⟨_, _, _, HL1.out, OwnSm.none _ _⟩ [125] least (until_take (by decide)))
   go_wp2_with fail
   refine HU.out.mono ?_
   rintro e w2 hp
   cases hx : untilM [125] least ((fun _ => stmtM L n : Nat → List Tok → Rd Sm)) (u1.length + 1) 0 u1 with
   | bad p c =>
     have HM := Lib.hid (HM.out.trans hx)
     rw [hx] at hp
     obtain ⟨rfl, hc⟩ := hp
     have HC := Lib.hid (chg_own_back HL1.out.chg hc)
     clear hx hc q0 q1 q2 HU
     unfold thrown
     go_wp2
     rw [HM.out]
     exact ⟨rfl, rfl, HC.out⟩
   | ok l u2 =>
     have HM := Lib.hid (HM.out.trans hx)
     rw [hx] at hp
     obtain ⟨rfl, hr, hc, A, m, c, hl, ho⟩ := hp
     have HRD := Lib.hid (hr (by decide))
     have HL2 := Lib.hid hl
     have HO2 := Lib.hid ho
     clear hx hr hc hl ho q0 q1 q2 HU
     have q2 := HL2.out.cells.2.2.1
     go_wp2
     go_ret
     rw [HM.out]
     exact ⟨⟨_, rfl, IsSms.keep (OwnSm.sms HO2.out) (fun _ _ => rfl) fun b hb => ⟨by have := hb.1; omega, hb.2⟩⟩, HRD.out, HL2.out.chg⟩
end Go.Proofs.YtbckeljbpknbdaaGreatDoor
