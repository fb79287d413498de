/- Koe -/
import Derived.Test.YtodociiaobjfgaaGreatDoorVc3
import Derived.Test.YtodociiaobjfgaaGreatDoorVd3
import Derived.Test.YtodociiaobjfgaaGreatDoorVd4
import Derived.Test.YtodociiaobjfgaaGreatDoorVe1
set_option linter.unusedVariables false
set_option linter.unusedSimpArgs false
namespace Go.Proofs.YtodociiaobjfgaaGreatDoor
open Go.RowKit
theorem Xvz {w0 : World} {B : Nat} (dc : Dc) {a b : Value} (hps : Xcl w0 (· < B) dc.pairs a) (hbd : Xcc w0 (· < B) dc.body b) (hsm : Xcy dc) (hsz : dc.pairs.length ≤ 1000000) (left : Int) (w : World) (hbw : Below B w0 w) (hB : B ≤ w.heap.size) (hl0 : 0 ≤ left) (hl1 : left ≤ 100000) :
  Calls Tryz.prog 17 #[.agg #[.int .i64 dc.kind, .int .i64 dc.pl, .int .i64 dc.num, .string (Xaa dc.name), .string (Xaa dc.type), a, b], .int .i64 left] w fun e w' => e = .returned (.int .i64 (Xkp dc left)) ∧ Below w.heap.size w w' := by
 obtain ⟨A5, m5, hea, _, _, _⟩ := id hps
 obtain ⟨A6, m6, heb, _, _⟩ := hbd.slice
 subst hea
 subst heb
 obtain ⟨s1, s2, s3, s4⟩ := hsm
 have hblock := Xss hbd s4
 obtain ⟨X, hX⟩ : ∃ X : World, X = w.alloc (.cells #[.int .i64 dc.kind, .int .i64 dc.pl, .int .i64 dc.num, .string (Xaa dc.name), .string (Xaa dc.type), .slice A5 dc.pairs.length m5, .slice A6 dc.body.length m6] 41) := ⟨_, rfl⟩
 have hbx : Below w.heap.size w X := by rw [hX]; exact (Below.refl _ _).alloc (Nat.le_refl _) _
 have hrow : Xar X w.heap.size dc.kind dc.pl dc.num (Xaa dc.name) (Xaa dc.type) (.slice A5 dc.pairs.length m5) (.slice A6 dc.body.length m6) := by rw [hX]; exact Xar.new _ _ _ _ _ _ _ _
 have hB0 : ∀ V : World, Below X.heap.size X V → Below B w0 V ∧ B ≤ V.heap.size := fun V hV => ⟨hbw.trans ((hbx.trans (hV.mono hbx.size)).mono hB), Nat.le_trans hB (Nat.le_trans hbx.size hV.size)⟩
 have up : ∀ {V V' : World}, Below X.heap.size X V → Below V.heap.size V V' → Below X.heap.size X V' := fun h1 h2 => h1.trans (h2.mono h1.size)
 have F : DcF w X w.heap.size dc.kind dc.pl dc.num (Xaa dc.name) (Xaa dc.type) A5 A6 m5 m6 dc.pairs.length dc.body.length (tyN dc.type) (Xam dc.name) dc.type.isEmpty left ((ownD dc : Nat) : Int) dc.pairs dc.body := {
  HX := lh hX
  HG := lh rfl
  HGL := lh (Xab hrow)
  HC := lh fun V hV => by
   have h := hrow.below hV (Xab hrow)
   exact ⟨h.c0, h.c2, h.c3, h.c4, h.c5, h.c6⟩
  HNM := lh fun V hV => (Xhn V dc.name s1).mono fun e w' h => ⟨h.1, up hV h.2⟩
  HTY := lh fun V hV => by
   refine (Xkl V dc.type s2).mono fun e w' => ?_
   rintro ⟨A', c', h1, _, h2⟩
   exact ⟨A', c', h1, up hV h2⟩
  HPR := lh fun m l V hV h1 h2 h3 h4 => (Xsu hps s3 m l V (hB0 V hV).1 (hB0 V hV).2 h1 h2 h3 h4).mono fun e w' h => ⟨h.1, up hV h.2⟩
  HBD := lh fun l V hV h1 h2 => (hblock 1 l V (hB0 V hV).1 (hB0 V hV).2 (by omega) (by omega) h1 h2).mono fun e w' h => ⟨h.1, up hV h.2⟩
  HEND := lh fun V hV => hbx.trans (hV.mono hbx.size)
  HLE := lh fun l hl => by
   have h := Xgr dc.pairs l
   by_cases h0 : 0 ≤ l
   · exact Int.le_trans (h.le h0) hl
   · have : Xcn dc.pairs l < 0 := by
      cases hp : prsN dc.pairs with
      | none => rw [hp] at h; exact h
      | some n =>
        rw [hp] at h
        have h2 : if (n : Int) ≤ l then Xcn dc.pairs l = l - n else Xcn dc.pairs l < 0 := h
        rw [if_neg (by omega)] at h2; exact h2
     omega
  hse := by rw [Xaf]
  ht3 := Xxh _
  hnp := hsz
  hl0 := hl0
  hl1 := hl1 }
 obtain ⟨R, hR⟩ : ∃ R, R = Xkp dc left := ⟨_, rfl⟩
 rw [← hR]
 unfold Xkp at hR
 by_cases hk1 : dc.kind < 1
 · refine Xjw F (lh ?_) (.inl hk1)
   rw [hR, if_pos]
   unfold Xeq
   exact decide_eq_false (by omega)
 by_cases hk2 : 8 < dc.kind
 · refine Xjw F (lh ?_) (.inr (.inl hk2))
   rw [hR, if_pos]
   unfold Xeq
   exact decide_eq_false (by omega)
 rcases Xrp (d := dc) (by omega) (by omega) with ⟨h1, hok⟩ | ⟨h1, hbad⟩
 · rw [h1, if_neg (by simp)] at hR
   have hP : Xno dc (left - ownD dc) = if dc.kind = 3 then (if 8 < (dc.pairs.length : Int) then -1 else Xcn dc.pairs (left - ownD dc - dc.pairs.length)) else if dc.kind = 7 then (if 4 < (dc.pairs.length : Int) then -1 else Xcn dc.pairs (left - ownD dc - ((dc.pairs.length - 1 : Nat) : Int))) else left - ownD dc := by
    unfold Xno
    have e8 : (8 : Int) < (dc.pairs.length : Int) ↔ 8 < dc.pairs.length := by omega
    have e4 : (4 : Int) < (dc.pairs.length : Int) ↔ 4 < dc.pairs.length := by omega
    simp only [e8, e4]
   rcases hok with h | h | h | h
   · exact rdecl_ok F (lh hP) (lh hR) h
   · exact Xwa F (lh hP) (lh hR) h
   · exact Xwb F (lh hP) (lh hR) h
   · exact Xwc F (lh hP) (lh hR) h
 · refine Xjw F (lh ?_) (.inr (.inr ⟨by omega, by omega, hbad⟩))
   rw [hR, if_pos h1]
end Go.Proofs.YtodociiaobjfgaaGreatDoor
