/- Fw -/
import Derived.Test.YtbckeljbpknbdaaGreatDoorVc5
import Derived.Test.YtbckeljbpknbdaaGreatDoorVc6
import Derived.Test.YtbckeljbpknbdaaGreatDoorVc7
import Derived.Test.YtbckeljbpknbdaaGreatDoorVc8
set_option linter.unusedVariables false
set_option linter.unusedSimpArgs false
namespace Go.Proofs.YtbckeljbpknbdaaGreatDoor
open Go.RowKit
set_option maxRecDepth 100000 in
theorem Yfz {w : World} {B R L : Nat} {us : List Tok} (h : RdAt w B R L us) (hB : B ≤ w.heap.size) (D : Int) {p c : Nat} (hx : Xal L Xhr us = .bad p c) :
  Calls Tryz.prog 84 #[.pointer (some ⟨R, 0, none⟩), .int .i64 D] w (Xaj (SmB w.heap.size) w B R L (.bad p c)) := by
 obtain ⟨X, hX⟩ : ∃ X : World, X = ((w.alloc (.cells #[.pointer (some ⟨R, 0, none⟩)] 52)).alloc (.cells #[.int .i64 D] 3)).alloc (.cells #[.int .i64 0, .int .i64 0, .string ⟨#[]⟩, .string ⟨#[]⟩, .slice none 0 0, .slice none 0 0, .slice none 0 0] 68) := ⟨_, rfl⟩
 have hbX : Below w.heap.size w X := by rw [hX]; exact ((Xae _ _).alloc (by simp) _).alloc (by simp; omega) _
 have hx0 : X.cell? ⟨w.heap.size, 0, none⟩ = some (.pointer (some ⟨R, 0, none⟩)) := by
  rw [hX]
  have h0 : (w.alloc (.cells #[.pointer (some ⟨R, 0, none⟩)] 52)).cell? ⟨w.heap.size, 0, none⟩ = some (.pointer (some ⟨R, 0, none⟩)) := by
   rw [cell_of_row _ _ 0 _ _ (0, 0) (heap_alloc_new w _)]; rfl
  exact Xaa (Xaa h0 _) _
 have HP := lh (Xan (h.below' hB hbX) (Nat.le_trans hB hbX.size) [[118, 97, 114], [115, 101, 116], [105, 102], [119, 104, 105, 108, 101], [108, 111, 99, 107], [117, 110, 108, 111, 99, 107], [115, 101, 110, 100], [114, 101, 99, 118], [111, 117, 116], [99, 97, 108, 108], [114, 101, 116, 117, 114, 110]] (by simp) (by decide))
 have hx' : Xal L [[118, 97, 114], [115, 101, 116], [105, 102], [119, 104, 105, 108, 101], [108, 111, 99, 107], [117, 110, 108, 111, 99, 107], [115, 101, 110, 100], [114, 101, 99, 118], [111, 117, 116], [99, 97, 108, 108], [114, 101, 116, 117, 114, 110]] us = .bad p c := hx
 rw [hx', show X.heap.size = w.heap.size + 1 + 1 + 1 by rw [hX]; simp] at HP
 have HX := lh hX
 have HBX := lh hbX
 clear h hB hbX hX hx hx'
 go_enter Tryz.func84, Tryz.ntmps84
 go_wp2_with fail
 rw [← HX.out]
 refine HP.out.mono ?_
 rintro e w1 ⟨rfl, hc⟩
 have HC := lh (Xbf HBX.out hc)
 clear hc
 unfold Xag
 go_wp2
 exact ⟨rfl, rfl, HC.out⟩
theorem Xyq {L n : Nat} (hn : n ≤ 24) (hE : Xrw L n) (hS : 0 < n → StmtC L n) : StmtC L (n + 1) := by
 intro w B R us h hB
 obtain ⟨D, hD⟩ : ∃ D : Int, D = 24 - (n : Nat) := ⟨_, rfl⟩
 have hD0 : 0 ≤ D := by omega
 have hD1 : D ≤ 24 := by omega
 have hDn : (25 - ((n + 1 : Nat) : Int)) = D := by omega
 have hDe : D + 1 = 25 - (n : Nat) := by omega
 rw [hDn]
 have hE' : ∀ (w : World) (us : List Tok), RdAt w B R L us → B ≤ w.heap.size → Calls Tryz.prog 110 #[.pointer (some ⟨R, 0, none⟩), .int .i64 (D + 1)] w (Xaj (ExB w.heap.size) w B R L (Xah L n us)) := fun w us h hB => by
  rw [hDe]; exact hE w B R us h hB
 have hBL : 0 < n → ∀ (w : World) (us : List Tok) (least : Nat), RdAt w B R L us → B ≤ w.heap.size → Calls Tryz.prog 57 #[.pointer (some ⟨R, 0, none⟩), .int .i64 (D + 1), .int .i64 (least : Nat)] w (Xaj (SmsB w.heap.size) w B R L (Xdp L (Xcp L n) least us)) := fun hn0 w us least h hB =>
  Xph h hB (by omega) (by omega) least fun w us h hB => by rw [hDe]; exact hS hn0 w B R us h hB
 have hAR : ∀ (w : World) (us : List Tok), RdAt w B R L us → B ≤ w.heap.size → Calls Tryz.prog 113 #[.pointer (some ⟨R, 0, none⟩), .int .i64 (D + 1)] w (Xaj (ExsB w.heap.size) w B R L (Xgx L (Xah L n) us)) := fun w us h hB =>
  Ybg h hB (by omega) (by omega) hE'
 have e0 : Xcp L (n + 1) us = (Xal L Xhr us).bind fun t r => Xfh L (Xah L n) (Xcp L n) t r := by rw [Xcp]
 cases hx : Xal L Xhr us with
 | bad p c => rw [e0.trans (Xam hx)]; exact Yfz h hB D hx
 | ok t r =>
   have e1 := e0.trans (Xap hx)
   have hm := Xoo hx
   obtain rfl : us = t :: r := by
    cases us with
    | nil => cases hx
    | cons u v =>
      rw [Xal] at hx
      split at hx
      · cases hx; rfl
      · cases hx
   unfold Xfh at e1
   have hw : t.text = [105, 102] ∨ t.text = [119, 104, 105, 108, 101] ∨ t.text = [118, 97, 114] ∨ t.text = [115, 101, 116] ∨ t.text = [108, 111, 99, 107] ∨ t.text = [117, 110, 108, 111, 99, 107] ∨ t.text = [115, 101, 110, 100] ∨ t.text = [114, 101, 99, 118] ∨ t.text = [111, 117, 116] ∨ t.text = [99, 97, 108, 108] ∨ t.text = [114, 101, 116, 117, 114, 110] := by
    simp only [Xhr, List.mem_cons, List.not_mem_nil, or_false] at hm
    rcases hm with e | e | e | e | e | e | e | e | e | e | e <;> simp [e]
   have ng : ∀ {a b : List UInt8}, t.text = a → a ≠ b → ¬ t.text = b := fun h1 h2 h3 => h2 (h1.symm.trans h3)
   rcases hw with e | e | e | e | e | e | e | e | e | e | e
   · exact stmt_if h hB D hD0 hD1 hE' e hBL (e1.trans (if_pos e))
   · exact Yau h hB D hD0 hD1 hE' e hBL (e1.trans ((if_neg (ng e (by decide))).trans (if_pos e)))
   · exact stmt_var h hB D hD0 hD1 hE' e (e1.trans ((if_neg (ng e (by decide))).trans ((if_neg (ng e (by decide))).trans (if_pos e))))
   · exact stmt_set h hB D hD0 hD1 hE' e (e1.trans ((if_neg (ng e (by decide))).trans ((if_neg (ng e (by decide))).trans ((if_neg (ng e (by decide))).trans (if_pos e)))))
   · exact Yfy h hB D hD0 hD1 hE' e (e1.trans ((if_neg (ng e (by decide))).trans ((if_neg (ng e (by decide))).trans ((if_neg (ng e (by decide))).trans ((if_neg (ng e (by decide))).trans (if_pos e))))))
   · exact Xwo h hB D hD0 hD1 hE' e (e1.trans ((if_neg (ng e (by decide))).trans ((if_neg (ng e (by decide))).trans ((if_neg (ng e (by decide))).trans ((if_neg (ng e (by decide))).trans ((if_neg (ng e (by decide))).trans (if_pos e)))))))
   · exact Ygb h hB D hD0 hD1 hE' e (e1.trans ((if_neg (ng e (by decide))).trans ((if_neg (ng e (by decide))).trans ((if_neg (ng e (by decide))).trans ((if_neg (ng e (by decide))).trans ((if_neg (ng e (by decide))).trans ((if_neg (ng e (by decide))).trans (if_pos e))))))))
   · exact Yga h hB D hD0 hD1 hE' e (e1.trans ((if_neg (ng e (by decide))).trans ((if_neg (ng e (by decide))).trans ((if_neg (ng e (by decide))).trans ((if_neg (ng e (by decide))).trans ((if_neg (ng e (by decide))).trans ((if_neg (ng e (by decide))).trans ((if_neg (ng e (by decide))).trans (if_pos e)))))))))
   · exact stmt_out h hB D hD0 hD1 hE' e (e1.trans ((if_neg (ng e (by decide))).trans ((if_neg (ng e (by decide))).trans ((if_neg (ng e (by decide))).trans ((if_neg (ng e (by decide))).trans ((if_neg (ng e (by decide))).trans ((if_neg (ng e (by decide))).trans ((if_neg (ng e (by decide))).trans ((if_neg (ng e (by decide))).trans (if_pos e))))))))))
   · exact Yfx h hB D hD0 hD1 hE' e hAR (e1.trans ((if_neg (ng e (by decide))).trans ((if_neg (ng e (by decide))).trans ((if_neg (ng e (by decide))).trans ((if_neg (ng e (by decide))).trans ((if_neg (ng e (by decide))).trans ((if_neg (ng e (by decide))).trans ((if_neg (ng e (by decide))).trans ((if_neg (ng e (by decide))).trans ((if_neg (ng e (by decide))).trans (if_pos e)))))))))))
   · exact Xwn h hB D hD0 hD1 hE' e (e1.trans ((if_neg (ng e (by decide))).trans ((if_neg (ng e (by decide))).trans ((if_neg (ng e (by decide))).trans ((if_neg (ng e (by decide))).trans ((if_neg (ng e (by decide))).trans ((if_neg (ng e (by decide))).trans ((if_neg (ng e (by decide))).trans ((if_neg (ng e (by decide))).trans ((if_neg (ng e (by decide))).trans ((if_neg (ng e (by decide))))))))))))))
theorem Xyp (L : Nat) : ∀ n : Nat, n ≤ 24 → StmtC L (n + 1)
 | 0, _ => Xyq (by omega) (Xmj L 0 (by omega)) (fun h => absurd h (by omega))
 | n + 1, h => Xyq (by omega) (Xmj L (n + 1) (by omega)) (fun _ => Xyp L n (by omega))
theorem Xqr {w : World} {B R L : Nat} {us : List Tok} (h : RdAt w B R L us) (hB : B ≤ w.heap.size) : Calls Tryz.prog 57 #[.pointer (some ⟨R, 0, none⟩), .int .i64 1, .int .i64 0] w (Xaj (SmsB w.heap.size) w B R L (Xgy L us)) :=
 Xph h hB (D := 1) (by omega) (by omega) 0 fun w us h hB => Xyp L 23 (by omega) w B R us h hB
end Go.Proofs.YtbckeljbpknbdaaGreatDoor
