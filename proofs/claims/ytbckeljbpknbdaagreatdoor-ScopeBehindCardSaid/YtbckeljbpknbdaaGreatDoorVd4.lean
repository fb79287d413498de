/- Gf -/
import Derived.Test.YtbckeljbpknbdaaGreatDoorVd1
import Derived.Test.YtbckeljbpknbdaaGreatDoorVd2
set_option linter.unusedVariables false
set_option linter.unusedSimpArgs false
namespace Go.Proofs.YtbckeljbpknbdaaGreatDoor
open Go.RowKit
set_option maxRecDepth 100000 in
theorem Ycf {w : World} {B R L : Nat} {us : List Tok} (h : RdAt w B R L us) (hB : B ≤ w.heap.size) (k : Nat) {p c : Nat} (hx : Xal L Xhm us = .bad p c) :
  Calls Tryz.prog 31 #[.pointer (some ⟨R, 0, none⟩), .int .i64 (k : Nat)] w (Xaj (DcB w.heap.size) w B R L (.bad p c)) := by
 obtain ⟨X, hX⟩ : ∃ X : World, X = w.alloc (.cells #[.int .i64 0, .int .i64 0, .int .i64 0, .string ⟨#[]⟩, .string ⟨#[]⟩, .slice none 0 0, .slice none 0 0] 46) := ⟨_, rfl⟩
 have hbX : Below w.heap.size w X := by rw [hX]; exact Xae _ _
 have HP := lh (Xan (h.below' hB hbX) (Nat.le_trans hB hbX.size) [[108, 111, 99, 107], [99, 104, 97, 110], [115, 116, 114, 117, 99, 116], [118, 97, 114], [105, 110, 112, 117, 116], [115, 105, 110, 107], [102, 117, 110, 99], [116, 104, 114, 101, 97, 100]] (by simp) (by decide))
 have hx' : Xal L [[108, 111, 99, 107], [99, 104, 97, 110], [115, 116, 114, 117, 99, 116], [118, 97, 114], [105, 110, 112, 117, 116], [115, 105, 110, 107], [102, 117, 110, 99], [116, 104, 114, 101, 97, 100]] us = .bad p c := hx
 rw [hx', show X.heap.size = w.heap.size + 1 by rw [hX]; simp] at HP
 have HX := lh hX
 have HBX := lh hbX
 clear h hB hbX hX hx hx'
 go_enter Tryz.func31, Tryz.ntmps31
 go_wp2_with fail
 rw [← HX.out]
 refine HP.out.mono ?_
 rintro e w1 ⟨rfl, hc⟩
 have HC := lh (Xbf HBX.out hc)
 clear hc
 unfold Xag
 go_wp2
 exact ⟨rfl, rfl, HC.out⟩
set_option maxRecDepth 100000 in
theorem Ycg {w : World} {B R L : Nat} {t : Tok} {r : List Tok} (h : RdAt w B R L (t :: r)) (hB : B ≤ w.heap.size) (k : Nat) {p c : Nat} (ht : t.text ∈ Xhm) (hx : Xcc L (decide (kd r = 1)) k 64 r = .bad p c) :
  Calls Tryz.prog 31 #[.pointer (some ⟨R, 0, none⟩), .int .i64 (k : Nat)] w (Xaj (DcB w.heap.size) w B R L (.bad p c)) := by
 obtain ⟨X, hX⟩ : ∃ X : World, X = w.alloc (.cells #[.int .i64 0, .int .i64 0, .int .i64 0, .string ⟨#[]⟩, .string ⟨#[]⟩, .slice none 0 0, .slice none 0 0] 46) := ⟨_, rfl⟩
 have hbX : Below w.heap.size w X := by rw [hX]; exact Xae _ _
 have HP := lh (Xan (h.below' hB hbX) (Nat.le_trans hB hbX.size) [[108, 111, 99, 107], [99, 104, 97, 110], [115, 116, 114, 117, 99, 116], [118, 97, 114], [105, 110, 112, 117, 116], [115, 105, 110, 107], [102, 117, 110, 99], [116, 104, 114, 101, 97, 100]] (by simp) (by decide))
 have hx' : Xal L [[108, 111, 99, 107], [99, 104, 97, 110], [115, 116, 114, 117, 99, 116], [118, 97, 114], [105, 110, 112, 117, 116], [115, 105, 110, 107], [102, 117, 110, 99], [116, 104, 114, 101, 97, 100]] (t :: r) = .ok t r := by rw [Xal]; exact if_pos ht
 rw [hx', show X.heap.size = w.heap.size + 1 by rw [hX]; simp] at HP
 obtain ⟨K, hK⟩ : ∃ K : Int, K = (t.kind : Nat) := ⟨_, rfl⟩
 obtain ⟨S, hS⟩ : ∃ S, S = Xab t.text := ⟨_, rfl⟩
 obtain ⟨U0, hU0⟩ : ∃ U : Int, U = (t.pl : Nat) := ⟨_, rfl⟩
 have HTV : Hid (∀ v, TokV X t v → v = .agg #[.int .i64 K, .string S, .int .i64 U0]) := lh fun v hv => by rw [hK, hS, hU0]; exact hv.1
 have HX := lh hX
 have HBX := lh hbX
 have HB := lh hB
 have HXX := lh hx
 have hfT := Xdn
 clear h hB hbX hX hx hx' hK hS hU0 ht
 go_enter Tryz.func31, Tryz.ntmps31
 go_wp2_with fail
 rw [← HX.out]
 refine HP.out.mono ?_
 rintro e w1 ⟨⟨v1, rfl, hv1⟩, hr, hc⟩
 obtain rfl := HTV.out _ hv1
 have HR1 := lh hr
 have HC1 := lh hc
 have HS1 : Hid (B ≤ w1.heap.size) := lh (Nat.le_trans HB.out (Nat.le_trans HBX.out.size hc.size))
 clear hr hc hv1 HP HTV
 obtain ⟨bb, hbb⟩ : ∃ b, b = decide (kd r = 1) := ⟨_, rfl⟩
 have HIN := lh (Xda HR1.out)
 rw [← hbb] at HIN HXX
 clear hbb
 go_wp2_with fail
 refine HIN.out.mono ?_
 rintro e w2 ⟨rfl, hb⟩
 have HR2 := lh (HR1.out.below' HS1.out hb)
 have HC2 := lh (HC1.out.up (Chg.of_below hb))
 clear hb
 go_wp2_with fail
 have HRO := lh (Xff HR2.out bb k 64)
 rw [HXX.out] at HRO
 refine HRO.out.mono ?_
 rintro e w3 ⟨rfl, hc⟩
 have HC := lh (Xbf HBX.out (HC2.out.up hc))
 clear hc HRO
 unfold Xag
 go_wp2
 exact ⟨rfl, rfl, HC.out⟩
theorem Ycb {w : World} {B R L : Nat} {us : List Tok} (k : Nat) (h : RdAt w B R L us) (hB : B ≤ w.heap.size) :
  Calls Tryz.prog 31 #[.pointer (some ⟨R, 0, none⟩), .int .i64 (k : Nat)] w (Xaj (DcB w.heap.size) w B R L (Xbx L k us)) := by
 have e0 : Xbx L k us = (Xal L Xhm us).bind fun t r => (Xcc L (decide (kd r = 1)) k 64 r).bind fun _ r2 => Xee L t.text (plc L r2) (tx r2) r2.tail := rfl
 cases hx : Xal L Xhm us with
 | bad p c => rw [e0.trans (Xam hx)]; exact Ycf h hB k hx
 | ok t r =>
   have e1 := e0.trans (Xap hx)
   have hm := Xoo hx
   obtain rfl : us = t :: r := by
    cases us with
    | nil => cases hx
    | cons u v =>
      rw [Xal] at hx
      split at hx
      · cases hx; rfl
      · cases hx
   cases hy : Xcc L (decide (kd r = 1)) k 64 r with
   | bad p c => rw [e1.trans (Xam hy)]; exact Ycg h hB k hm hy
   | ok u r2 =>
     have e2 := e1.trans (Xap hy)
     have hr2 := Xkj hy
     subst hr2
     have hk : k < 64 ∧ kd r2 = 1 := by
      unfold Xcc at hy
      split at hy
      · rename_i h1
        split at hy
        · exact ⟨by assumption, of_decide_eq_true h1⟩
        · cases hy
      · cases hy
     obtain ⟨nt, r, rfl⟩ : ∃ nt r, r2 = nt :: r := by
      cases r2 with
      | nil => exact absurd hk.2 (by decide)
      | cons a b => exact ⟨a, b, rfl⟩
     have hnk : nt.kind = 1 := hk.2
     unfold Xee at e2
     have ng : ∀ {a b : List UInt8}, t.text = a → a ≠ b → ¬ t.text = b := fun h1 h2 h3 => h2 (h1.symm.trans h3)
     simp only [Xhm, List.mem_cons, List.not_mem_nil, or_false] at hm
     rcases hm with e | e | e | e | e | e | e | e
     · exact Yce h hB hk.1 hnk e (e2.trans ((if_neg (ng e (by decide))).trans ((if_neg (ng e (by decide))).trans ((if_neg (ng e (by decide))).trans (if_pos e)))))
     · exact Ycc h hB hk.1 hnk e (e2.trans ((if_neg (ng e (by decide))).trans ((if_neg (ng e (by decide))).trans ((if_neg (ng e (by decide))).trans ((if_neg (ng e (by decide))).trans (if_pos e))))))
     · exact Xux h hB hk.1 hnk e (e2.trans (if_pos e))
     · exact decl_var h hB hk.1 hnk e (e2.trans ((if_neg (ng e (by decide))).trans ((if_neg (ng e (by decide))).trans ((if_neg (ng e (by decide))).trans ((if_neg (ng e (by decide))).trans ((if_neg (ng e (by decide))).trans (if_pos e)))))))
     · exact Xzi h hB hk.1 hnk e (e2.trans ((if_neg (ng e (by decide))).trans ((if_neg (ng e (by decide))).trans ((if_neg (ng e (by decide))).trans ((if_neg (ng e (by decide))).trans ((if_neg (ng e (by decide))).trans ((if_neg (ng e (by decide))).trans (if_pos e))))))))
     · exact Ych h hB hk.1 hnk e (e2.trans ((if_neg (ng e (by decide))).trans ((if_neg (ng e (by decide))).trans ((if_neg (ng e (by decide))).trans ((if_neg (ng e (by decide))).trans ((if_neg (ng e (by decide))).trans ((if_neg (ng e (by decide))).trans (if_neg (ng e (by decide))))))))))
     · exact Ycd h hB hk.1 hnk e (e2.trans ((if_neg (ng e (by decide))).trans (if_pos e)))
     · exact Xuy h hB hk.1 hnk e (e2.trans ((if_neg (ng e (by decide))).trans ((if_neg (ng e (by decide))).trans (if_pos e))))
theorem Yep {w : World} {B R L : Nat} {us : List Tok} (h : RdAt w B R L us) (hB : B ≤ w.heap.size) : Calls Tryz.prog 18 #[.pointer (some ⟨R, 0, none⟩)] w (Xql w R (Xbs L us)) :=
 Xtx h hB fun w us k h hB => Ycb k h hB
end Go.Proofs.YtbckeljbpknbdaaGreatDoor
