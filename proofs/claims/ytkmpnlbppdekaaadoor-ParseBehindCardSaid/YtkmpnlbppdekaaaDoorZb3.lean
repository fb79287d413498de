/- At -/
import Derived.Test.YtkmpnlbppdekaaaDoorZa8
import Derived.Test.YtkmpnlbppdekaaaDoorZa9
import Derived.Test.YtkmpnlbppdekaaaDoorZb0
import Derived.StillTailTactics
import Derived.IntWalk
set_option linter.unusedVariables false
set_option linter.unusedSimpArgs false
namespace Go.Proofs.YtkmpnlbppdekaaaDoor
open Go.RowKit
theorem opens_any {w : World} {B R L : Nat} {us : List Tok} (h : RdAt w B R L us) (hB : B ≤ w.heap.size) :
    Calls Tryd.prog 27 #[.pointer (some ⟨R, 0, none⟩)] w fun e w' => e = .returned (.bool (opensB us)) ∧ Below w.heap.size w w' := by
  obtain ⟨S, hS⟩ : ∃ S, S = strOf (tx us) := ⟨_, rfl⟩
  obtain ⟨K, hK⟩ : ∃ K : Int, K = (kd us : Nat) := ⟨_, rfl⟩
  obtain ⟨P, hP⟩ : ∃ P : Int, P = (plc L us : Nat) := ⟨_, rfl⟩
  have HNX : Hid (∀ wx, Below w.heap.size w wx → Calls Tryd.prog 29 #[.pointer (some ⟨R, 0, none⟩)] wx fun e w' => e = .returned (.agg #[.int .i64 K, .string S, .int .i64 P]) ∧ Below wx.heap.size wx w') := Lib.hid fun wx hb => by
    rw [hS, hK, hP]; exact next_any (h.below' hB hb)
  have HIN : Hid (∀ wx, Below w.heap.size w wx → Calls Tryd.prog 39 #[.pointer (some ⟨R, 0, none⟩)] wx fun e w' => e = .returned (.bool (decide (kd us = 1))) ∧ Below wx.heap.size wx w') := Lib.hid fun wx hb => isName_any (h.below' hB hb)
  have hf0 := tokF0
  have hf1 := tokF1
  by_cases hm : tx us ∈ [[116, 114, 117, 101], [102, 97, 108, 115, 101], [110, 105, 108], [108, 101, 110], [40], [110, 101, 119], [109, 97, 107, 101], [114, 101, 108, 101, 97, 115, 101]]
  · have HO : Hid (opensB us = true) := Lib.hid (by unfold opensB; exact decide_eq_true (.inl hm))
    rw [HO.out]
    have hst : S.toList = tx us := by rw [hS, strOf_toList]
    have hm8 : tx us = [116, 114, 117, 101] ∨ tx us = [102, 97, 108, 115, 101] ∨ tx us = [110, 105, 108] ∨ tx us = [108, 101, 110] ∨ tx us = [40] ∨ tx us = [110, 101, 119] ∨ tx us = [109, 97, 107, 101] ∨ tx us = [114, 101, 108, 101, 97, 115, 101] := by simpa using hm
    clear h hB hS hK hP hm
    rcases hm8 with hm | hm | hm | hm | hm | hm | hm | hm
    all_goals
      rw [hm] at hst
      clear hm
      go_enter Tryd.func27, Tryd.ntmps27
      go_wp2_with fail
      refine (HNX.out w (Below.refl _ _)).mono ?_
      rintro e w1 ⟨rfl, hb⟩
      have HB1 := Lib.hid hb
      clear hb
      go_wp2
      go_ret
      exact ⟨rfl, HB1.out⟩
  · have HO : Hid (opensB us = (decide (kd us = 1) || decide (kd us = 2))) := Lib.hid (by
      unfold opensB
      by_cases h1 : kd us = 1 <;> by_cases h2 : kd us = 2 <;> simp [h1, h2] <;> (first | omega | skip)
      simpa using hm)
    rw [HO.out]
    have e0 : (S.toList == [116, 114, 117, 101]) = false := by rw [hS, strOf_toList]; exact beq_eq_false_iff_ne.2 fun e => hm (by rw [e]; decide)
    have e1 : (S.toList == [102, 97, 108, 115, 101]) = false := by rw [hS, strOf_toList]; exact beq_eq_false_iff_ne.2 fun e => hm (by rw [e]; decide)
    have e2 : (S.toList == [110, 105, 108]) = false := by rw [hS, strOf_toList]; exact beq_eq_false_iff_ne.2 fun e => hm (by rw [e]; decide)
    have e3 : (S.toList == [108, 101, 110]) = false := by rw [hS, strOf_toList]; exact beq_eq_false_iff_ne.2 fun e => hm (by rw [e]; decide)
    have e4 : (S.toList == [40]) = false := by rw [hS, strOf_toList]; exact beq_eq_false_iff_ne.2 fun e => hm (by rw [e]; decide)
    have e5 : (S.toList == [110, 101, 119]) = false := by rw [hS, strOf_toList]; exact beq_eq_false_iff_ne.2 fun e => hm (by rw [e]; decide)
    have e6 : (S.toList == [109, 97, 107, 101]) = false := by rw [hS, strOf_toList]; exact beq_eq_false_iff_ne.2 fun e => hm (by rw [e]; decide)
    have e7 : (S.toList == [114, 101, 108, 101, 97, 115, 101]) = false := by rw [hS, strOf_toList]; exact beq_eq_false_iff_ne.2 fun e => hm (by rw [e]; decide)
    by_cases h1 : kd us = 1
    · have d1 : decide (kd us = 1) = true := decide_eq_true h1
      rw [d1] at HIN ⊢
      clear h hB hS hK hP hm h1 d1
      go_enter Tryd.func27, Tryd.ntmps27
      go_wp2_with fail
      refine (HNX.out w (Below.refl _ _)).mono ?_
      rintro e w1 ⟨rfl, hb⟩
      have HB1 := Lib.hid hb
      clear hb
      go_wp2_with fail
      refine (HIN.out w1 HB1.out).mono ?_
      rintro e w2 ⟨rfl, hb⟩
      have HB2 := Lib.hid (HB1.out.trans (hb.mono HB1.out.size))
      clear hb
      go_wp2
      go_ret
      exact ⟨rfl, HB2.out⟩
    · have d1 : decide (kd us = 1) = false := decide_eq_false h1
      rw [d1] at HIN ⊢
      have HD : Hid (decide (kd us = 2) = decide (K = 2)) := Lib.hid (by rw [hK]; exact (kd_dec us 2).symm)
      rw [HD.out]
      clear h hB hS hK hP hm h1 d1
      go_enter Tryd.func27, Tryd.ntmps27
      go_wp2_with fail
      refine (HNX.out w (Below.refl _ _)).mono ?_
      rintro e w1 ⟨rfl, hb⟩
      have HB1 := Lib.hid hb
      clear hb
      go_wp2_with fail
      refine (HIN.out w1 HB1.out).mono ?_
      rintro e w2 ⟨rfl, hb⟩
      have HB2 := Lib.hid (HB1.out.trans (hb.mono HB1.out.size))
      clear hb
      go_wp2_with fail
      refine (HNX.out w2 HB2.out).mono ?_
      rintro e w3 ⟨rfl, hb⟩
      have HB3 := Lib.hid (HB2.out.trans (hb.mono HB2.out.size))
      clear hb
      go_wp2
      go_ret
      exact ⟨by by_cases h : K = 2 <;> simp [h], HB3.out⟩
theorem link_any {w : World} {B R L n : Nat} (hn : n ≤ 24) (hE : ExprC L n) {us : List Tok} (h : RdAt w B R L us) (hl : tx us = [46] ∨ tx us = [91]) (hB : B ≤ w.heap.size) {Q : Nat → Prop} (hQ1 : ∀ b, Q b → B ≤ b) (hQ2 : ∀ b, w.heap.size ≤ b → Q b) (o : Ex) {u : Value} (hio : IsExs w (fun b => Q b ∧ b < w.heap.size) o.args u) (hon : o.name.length ≤ 16384) :
    Calls Tryd.prog 30 #[.pointer (some ⟨R, 0, none⟩), .agg #[.int .i64 o.kind, .int .i64 o.pl, .int .i64 o.num, .string (strOf o.name), u], .int .i64 (24 - (n : Nat))] w (RdPost (ExQ Q) w B R L (linkM L (exprM L n) o us)) := by
  obtain ⟨A, c, rfl, _, _⟩ := hio.slice
  have HQ : Hid ((∀ b, Q b → B ≤ b) ∧ ∀ b, w.heap.size ≤ b → Q b) := Lib.hid ⟨hQ1, hQ2⟩
  have hE' : ∀ (w : World) (us : List Tok), RdAt w B R L us → B ≤ w.heap.size → Calls Tryd.prog 16 #[.pointer (some ⟨R, 0, none⟩), .int .i64 ((24 - (n : Nat) : Int) + 1)] w (RdPost (ExB w.heap.size) w B R L (exprM L n us)) := fun w us hr hb => by
    rw [show (24 - (n : Nat) : Int) + 1 = 25 - (n : Nat) by omega]; exact hE w B R us hr hb
  match us, hl with
  | t :: r, hl =>
    have hne : (strOf t.text).toList = t.text := strOf_toList _
    rcases hl with hl | hl
    · have hl : t.text = [46] := hl
      have hT : (strOf t.text).toList = [46] := by rw [hne, hl]
      have hM : linkM L (exprM L n) o (t :: r) = (nameM L r).map fun s => .mk 5 t.pl 0 s [o] := by unfold linkM; exact if_pos hl
      cases hx : nameM L r with
      | bad p9 c9 => exact link_dot_bad h hB hB (Nat.le_refl _) HQ o A _ c hio hon _ hT rfl _ (by omega) (by omega) hE' hx (hM.trans (map_bad' hx))
      | ok s9 r9 => exact link_dot h hB hB (Nat.le_refl _) HQ o A _ c hio hon _ hT rfl _ (by omega) (by omega) hE' hx (hM.trans (map_ok' hx))
    · have hl : t.text = [91] := hl
      have hT : (strOf t.text).toList = [91] := by rw [hne, hl]
      have hM : linkM L (exprM L n) o (t :: r) = (exprM L n r).bind fun a r2 => if tx r2 = [58] then (exprM L n r2.tail).bind fun b r3 => (takeM L [[93]] r3).map fun _ => .mk 7 t.pl 0 [] [o, a, b]
          else (takeM L [[93]] r2).map fun _ => .mk 6 t.pl 0 [] [o, a] := by unfold linkM; exact if_neg (by rw [hl]; decide)
      cases hx : exprM L n r with
      | bad p9 c9 => exact link_bad1 h hB hB (Nat.le_refl _) HQ o A _ c hio hon _ hT rfl _ (by omega) (by omega) hE' hx (hM.trans (bind_bad' hx))
      | ok a r2 =>
        have hM := hM.trans (bind_ok' hx)
        by_cases h58 : tx r2 = [58]
        · have hM := hM.trans (if_pos h58)
          cases hx2 : exprM L n r2.tail with
          | bad p9 c9 => exact link_slice_bad2 h hB hB (Nat.le_refl _) HQ o A _ c hio hon _ hT rfl _ (by omega) (by omega) hE' hx h58 hx2 (hM.trans (bind_bad' hx2))
          | ok b r6 =>
            have hM := hM.trans (bind_ok' hx2)
            cases htx : takeM L [[93]] r6 with
            | bad p5 c5 => exact link_slice_bad h hB hB (Nat.le_refl _) HQ o A _ c hio hon _ hT rfl _ (by omega) (by omega) hE' hx h58 hx2 htx (hM.trans (map_bad' htx))
            | ok t5 r5 => exact link_slice h hB hB (Nat.le_refl _) HQ o A _ c hio hon _ hT rfl _ (by omega) (by omega) hE' hx h58 hx2 htx (hM.trans (map_ok' htx))
        · have hM := hM.trans (if_neg h58)
          cases htx : takeM L [[93]] r2 with
          | bad p5 c5 => exact link_index_bad h hB hB (Nat.le_refl _) HQ o A _ c hio hon _ hT rfl _ (by omega) (by omega) hE' hx h58 htx (hM.trans (map_bad' htx))
          | ok t5 r5 => exact link_index h hB hB (Nat.le_refl _) HQ o A _ c hio hon _ hT rfl _ (by omega) (by omega) hE' hx h58 htx (hM.trans (map_ok' htx))
end Go.Proofs.YtkmpnlbppdekaaaDoor
